import PyProof.Rows.All
import Wide.All
import OpenK.AllK
import Wide.FinOn
import Lean
import PyProof.EqAt
import PyProof.EqKinds
import PyProof.TupleCall
import PySem.Challenge.RW_apartbook_k34_rows_taken
set_option Elab.async false
set_option linter.all false
set_option maxRecDepth 100000
set_option compiler.extract_closed false
theorem zau0(h:True:=by first|exact .inl rfl|exact .inr rfl|assumption):True:=h
theorem zau1(h:True:=by decide):True:=h
theorem zau2(h:True:=by rfl):True:=h
theorem zau3(h:True:=by intros;rfl):True:=h
theorem zau4(h:True:=by intro _;rfl):True:=h
theorem zau5(h:True:=by first|exact Or.inl rfl|exact Or.inr (Or.inl rfl)|exact Or.inr (Or.inr rfl)):True:=h
theorem zau6(h:True:=by exact fun _ _=>rfl):True:=h
theorem zau7(h:True:=by exact fun _=>rfl):True:=h
theorem zau8(h:True:=by first|exact Or.inl rfl|exact Or.inr rfl):True:=h
theorem zau9(h:True:=by exact⟨rfl,rfl,rfl,rfl⟩):True:=h
namespace L2
open PySem PySem.Spec PyProof.Rows
noncomputable abbrev Key:=Sum Int Str
noncomputable def jnx:Key→Value→Bool
 | .inl k,v=>Value.isInt k v
 | .inr x,v=>Value.isStrOf x v
noncomputable def keyH(w:World):Key→Int
 | .inl k=>hashInt k
 | .inr x=>hashStr w x
theorem jbi:∀ {k:Key} {v:Value},jnx k v=true→(∃ i t,k=Sum.inl i∧v=Value.int i t)∨(∃ x t,k=Sum.inr x∧v=Value.str x t)
 | .inl i,v,h=>by
  obtain⟨t,e⟩:=Value.isInt_shape (k:=i) (v:=v) h
  exact .inl ⟨i,t,rfl,e⟩
 | .inr x,v,h=>by
  obtain⟨t,e⟩:=Value.isStrOf_shape (x:=x) (v:=v) h
  exact .inr ⟨x,t,rfl,e⟩
theorem jpt(i:Int)(t:Tok):jnx (.inl i) (.int i t)=true:=by simp[jnx,Value.isInt]
theorem jpu(x:Str)(t:Tok):jnx (.inr x) (.str x t)=true:=by simp[jnx,Value.isStrOf]
theorem jyw(a b:Int):decide ((Sum.inl a:Key)=Sum.inl b)=(a == b):=by
 by_cases e:a=b
 ·subst e;simp
 ·have h:¬ (Sum.inl a:Key)=Sum.inl b:=fun q=>e (Sum.inl.inj q)
  rw[decide_eq_false h]
  exact (beq_eq_false_iff_ne.mpr e).symm
theorem jyz(a b:Str):decide ((Sum.inr a:Key)=Sum.inr b)=decide (a=b):=by
 by_cases e:a=b
 ·subst e;simp
 ·have h:¬ (Sum.inr a:Key)=Sum.inr b:=fun q=>e (Sum.inr.inj q)
  rw[decide_eq_false h,decide_eq_false e]
theorem jyx(a:Int)(b:Str):decide ((Sum.inl a:Key)=Sum.inr b)=false:=decide_eq_false (fun q=>nomatch q)
theorem jyy(a:Str)(b:Int):decide ((Sum.inr a:Key)=Sum.inl b)=false:=decide_eq_false (fun q=>nomatch q)
noncomputable def jbo(prog:Program)(w:World):PySem.KeyKind prog w Key where
 is:=jnx
 hash:=keyH w
 inj:=fun v a b ha hb=>by
  rcases jbi ha with ⟨i,t,rfl,rfl⟩|⟨x,t,rfl,rfl⟩
  ·rcases jbi hb with ⟨j,u,rfl,e⟩|⟨y,u,rfl,e⟩
   ·injection e with e1 _;rw[e1]
   ·exact nomatch e
  ·rcases jbi hb with ⟨j,u,rfl,e⟩|⟨y,u,rfl,e⟩
   ·exact nomatch e
   ·injection e with e1 _;rw[e1]
 byValue:=fun k v h=>by
  rcases jbi h with ⟨i,t,rfl,rfl⟩|⟨x,t,rfl,rfl⟩<;>rfl
 pyHash:=fun hv h=>by
  rcases jbi hv with ⟨i,t,rfl,rfl⟩|⟨x,t,rfl,rfl⟩
  ·exact wpAny_pyHash_int h
  ·exact wpAny_pyHash_str h
 eqBool:=fun hu hv h=>by
  rcases jbi hu with ⟨i,t,rfl,rfl⟩|⟨x,t,rfl,rfl⟩
  ·rcases jbi hv with ⟨j,u,rfl,rfl⟩|⟨y,u,rfl,rfl⟩
   ·rw[jyw] at h;exact wpAny_eqBool_int h
   ·rw[jyx] at h;exact SeqAt.EqAt.int_str i t y u _ _ _ _ h
  ·rcases jbi hv with ⟨j,u,rfl,rfl⟩|⟨y,u,rfl,rfl⟩
   ·rw[jyy] at h;exact SeqAt.EqAt.str_int x t j u _ _ _ _ h
   ·rw[jyz] at h;exact wpAny_eqBool_str h
 «strs»:=fun k x t v h=>by
  rcases jbi h with ⟨i,u,rfl,e⟩|⟨y,u,rfl,e⟩
  ·exact nomatch e
  ·injection e with e1 _
   subst e1
   cases v<;>rfl
theorem jl1(prog:Program)(w:World)(i:Int)(t:Tok):(jbo prog w).is (.inl i) (.int i t)=true:=jpt i t
theorem jl2(prog:Program)(w:World)(x:Str)(t:Tok):(jbo prog w).is (.inr x) (.str x t)=true:=jpu x t
inductive V where
 | non|bl (b:Bool)|int (i:Int)|str (x:Str)|byt (b:Array UInt8)|flt (b:UInt64)|ref (a:Addr)|ty (n:String)
 deriving DecidableEq
noncomputable def RelV:V→Value→Prop
 | .non,u=>u=Value.none
 | .bl b,u=>u=Value.bool b
 | .int i,u=>∃ t,u=Value.int i t
 | .str x,u=>∃ t,u=Value.str x t
 | .byt b,u=>∃ t,u=Value.bytes b t
 | .flt b,u=>∃ t,u=Value.float b t
 | .ref a,u=>u=Value.ref a
 | .ty n,u=>u=Value.type n
noncomputable abbrev Vals:List V→List Value→Prop:=Paired RelV
theorem Vals.length{xs:List V}{us:List Value}(r:Vals xs us):xs.length=us.length:=Paired.length r
theorem Vals.get:∀ {xs:List V} {us:List Value} {i:Nat} {x:V},Vals xs us→xs[i]? = some x→∃ u,us[i]? = some u∧RelV x u
 | _,_,_,_,.nil,e=>by simp at e
 | _,_,0,_,.cons r _,e=>by simp at e;subst e;exact⟨_,rfl,r⟩
 | _,_,i+1,x,.cons _ t,e=>by
  obtain⟨u,h1,h2⟩:=Vals.get (i:=i) (x:=x) t (by simpa using e)
  exact⟨u,by simpa using h1,h2⟩
theorem Vals.set{x:V}{u:Value}(r:RelV x u):∀ {xs:List V} {us:List Value} (i:Nat),Vals xs us→Vals (xs.set i x) (us.set i u)
 | _,_,_,.nil=>.nil
 | _,_,0,.cons _ t=>.cons r t
 | _,_,i+1,.cons q t=>.cons q (Vals.set r i t)
theorem Vals.append:∀ {xs ys:List V} {us ws:List Value},Vals xs us→Vals ys ws→Vals (xs++ys) (us++ws)
 | _,_,_,_,.nil,s=>s
 | _,_,_,_,.cons r t,s=>.cons r (Vals.append t s)
theorem Vals.take:∀ {xs:List V} {us:List Value} (n:Nat),Vals xs us→Vals (xs.take n) (us.take n)
 | _,_,0,_=>.nil
 | _,_,_+1,.nil=>.nil
 | _,_,n+1,.cons r t=>.cons r (Vals.take n t)
theorem Vals.drop:∀ {xs:List V} {us:List Value} (n:Nat),Vals xs us→Vals (xs.drop n) (us.drop n)
 | _,_,0,r=>r
 | _,_,_+1,.nil=>.nil
 | _,_,n+1,.cons _ t=>Vals.drop n t
noncomputable def RelO:Option V→Option Value→Prop
 | some v,some u=>RelV v u
 | none,none=>True
 | _,_=>False
noncomputable def KV{κ:Type}:List (κ×V)→List (κ×Value)→Prop:=Paired fun (p:κ×V) (q:κ×Value)=>p.1=q.1∧RelV p.2 q.2
noncomputable def kV:Key→V
 | .inl i=>.int i
 | .inr x=>.str x
inductive HO where
  | lst (xs:List V)
  | tup (xs:List V)
  | dK (kvs:List (Key×V))|dT (kvs:List (List Key×V))
  | set (S:Int→Bool) (n:Nat)
  | ins (C dx:Addr) (fs:List (Str×V))
  | own (x:Addr)
  | xd (fs:List (Str×V))
  | met (f x:Addr)
  | rng (lo hi:Int)
  | frz (o:Obj) (u:HO)
  | tbl (ps:Array Value)
  | ext (φ:Heap→Prop)
noncomputable abbrev Hp:=Addr→Option HO
noncomputable def upd(H:Hp)(a:Addr)(o:HO):Hp:=fun b=>if b=a then some o else H b
theorem jag{H:Hp}{a:Addr}{o:HO}:upd H a o a=some o:=by unfold upd;rw[if_pos rfl]
theorem jaj{H:Hp}{a b:Addr}{o:HO}(h:b≠a):upd H a o b=H b:=by unfold upd;rw[if_neg h]
theorem jl3{H:Hp}{a b:Addr}{o u:HO}(h:H a=some o)(h':H b=some u)(d:o≠u):a≠b:=by
 intro e;subst e;rw[h] at h';exact d (Option.some.inj h')
theorem jas{H:Hp}{a b:Addr}{o:HO}(h:H a=some o)(h':H b=none):a≠b:=by
 intro e;subst e;rw[h] at h';cases h'
section
variable (P:Program)(w:World)
noncomputable def ObjOk(H:Hp)(h:Heap)(a:Addr):HO→Prop
 | .lst xs=>xs.length≤sizeLine∧∃ (its:List Value) (n:Nat),Vals xs its∧h.get? a=some { cls:=.type "list",data:=.seq its.toArray n }
 | .tup xs=>xs.length≤sizeLine∧∃ its:List Value,Vals xs its∧IsTup h a its.toArray
 | .dK kvs=>kvs.length≤sizeLine∧(a == sysModules)=false∧∃ vs,KV kvs vs∧h.DictOf (jbo P w) a vs
 | .dT kvs=>kvs.length≤sizeLine∧(a == sysModules)=false∧∃ xs:List (List Key×Addr×Value),
   Paired (fun (p:List Key×V) (q:List Key×Addr×Value)=>p.1=q.1∧H q.2.1=some (.tup (p.1.map kV))∧RelV p.2 q.2.2) kvs xs ∧
   ∃ o es ep,h.get? a=some o∧o.ExactDict∧o.data=.dict es ep∧es.toList=xs.map (entryOfKey (tupleKind (jbo P w)))∧(xs.map (·.1)).Nodup
 | .set S n=>h.SetOf (intKind P w) a S n
 | .ins C dx fs=>H dx=some (.own a)∧fs.length≤1000∧dx≠a∧h.get? a=some (PySem.W.instObj C dx) ∧
   ∃ mA,h.Ns1 dx mA∧(∀ f,RelO (fs.lookup f) (mA f))∧PySem.Within mA (fs.map (·.1))
 | .own _=>∃ o,h.get? a=some o
 | .xd fs=>∃ mA,h.Ns1 a mA∧∀ f,RelO (fs.lookup f) (mA f)
 | .rng lo hi=>∃ t u v,h.get? a=some { cls:=.type "range",data:=.fields #[.int lo t,.int hi u,.int 1 v] }
 | .frz o u=>h.get? a=some o∧ObjOk H h a u
 | .tbl ps=>h.get? a=some { cls:=.none,data:=.fields ps }
 | .met f x=>h.get? a=some (PySem.W.methodObj (.ref f) (.ref x))
 | .ext φ=>φ h∧(∃ o,h.get? a=some o)∧∀ h1 h2:Heap,φ h1→(∀ o,h1.get? a=some o→h2.get? a=some o)→φ h2
noncomputable def HOk(H:Hp)(h:Heap):Prop:=∀ a o,H a=some o→ObjOk P w H h a o
end
section
variable {P:Program}{w:World}{H H':Hp}{h h':Heap}{a:Addr}{o:HO}
theorem ObjOk.lt(x:ObjOk P w H h a o):a<h.objs.size:=by
 cases o with
 | lst xs=>obtain⟨_,_,_,_,e⟩:=x;exact Heap.lt_size e
 | tup xs=>obtain⟨_,_,_,p⟩:=x;exact p.lt
 | dK kvs=>obtain⟨_,_,_,_,o,_,_,e,_⟩:=x;exact Heap.lt_size e
 | dT kvs=>obtain⟨_,_,_,_,o,_,_,e,_⟩:=x;exact Heap.lt_size e
 | set S n=>obtain⟨o,_,_,_,e,_⟩:=x;exact Heap.lt_size e
 | ins C dx fs=>obtain⟨_,_,_,e,_⟩:=x;exact Heap.lt_size e
 | own y=>obtain⟨_,e⟩:=x;exact Heap.lt_size e
 | xd fs=>obtain⟨_,⟨_,_,_,e,_⟩,_⟩:=x;exact Heap.lt_size e
 | rng lo hi=>obtain⟨_,_,_,e⟩:=x;exact Heap.lt_size e
 | frz ob u=>obtain⟨e,_⟩:=x;exact Heap.lt_size e
 | tbl ps=>exact Heap.lt_size (show h.get? a=some _ from x)
 | met f y=>exact Heap.lt_size (show h.get? a=some _ from x)
 | ext φ=>obtain⟨_,⟨_,e⟩,_⟩:=x;exact Heap.lt_size e
theorem Paired.mapP{α β:Type}{F G:α→β→Prop}:∀ {l₁:List α} {l₂:List β},Paired F l₁ l₂→(∀ a b,F a b→G a b)→Paired G l₁ l₂
 | _,_,.nil,_=>.nil
 | _,_,.cons r t,f=>.cons (f _ _ r) (Paired.mapP t f)
theorem ObjOk.stay(x:ObjOk P w H h a o)(k:∀ b u,(b=a∨H b=some (.own a))→h.get? b=some u→h'.get? b=some u)
  (ho:∀ b,H b=some (.own a)→H' b=some (.own a)) (ht:∀ b xs,H b=some (.tup xs)→H' b=some (.tup xs)):ObjOk P w H' h' a o:=by
 induction o with
 | lst xs=>obtain⟨z,its,n,r,e⟩:=x;exact⟨z,its,n,r,k _ _ (.inl rfl) e⟩
 | tup xs=>obtain⟨z,its,r,ob,e,c⟩:=x;exact⟨z,its,r,ob,k _ _ (.inl rfl) e,c⟩
 | dK kvs=>obtain⟨z,y,vs,r,ob,es,ep,e,c⟩:=x;exact⟨z,y,vs,r,ob,es,ep,k _ _ (.inl rfl) e,c⟩
 | dT kvs =>
  obtain⟨z,y,xs,r,ob,es,ep,e,c⟩:=x
  exact⟨z,y,xs,Paired.mapP r fun p q z=>⟨z.1,ht _ _ z.2.1,z.2.2⟩,ob,es,ep,k _ _ (.inl rfl) e,c⟩
 | set S n=>obtain⟨ob,es,ep,t,e,c⟩:=x;exact⟨ob,es,ep,t,k _ _ (.inl rfl) e,c⟩
 | ins C dx fs =>
  obtain⟨d,z,ne,e,mA,⟨od,es,ep,e2,c⟩,r⟩:=x
  exact⟨ho _ d,z,ne,k _ _ (.inl rfl) e,mA,⟨od,es,ep,k _ _ (.inr d) e2,c⟩,r⟩
 | own y=>obtain⟨ob,e⟩:=x;exact⟨ob,k _ _ (.inl rfl) e⟩
 | xd fs=>obtain⟨mA,⟨od,es,ep,e,c⟩,r⟩:=x;exact⟨mA,⟨od,es,ep,k _ _ (.inl rfl) e,c⟩,r⟩
 | rng lo hi=>obtain⟨t,u,v,e⟩:=x;exact⟨t,u,v,k _ _ (.inl rfl) e⟩
 | frz ob u ih=>obtain⟨e,q⟩:=x;exact⟨k _ _ (.inl rfl) e,ih q⟩
 | tbl ps =>
  have e:h.get? a=some { cls:=.none,data:=.fields ps }:=x
  show h'.get? a=some { cls:=.none,data:=.fields ps }
  exact k a _ (.inl rfl) e
 | met f y =>
  have e:h.get? a=some (PySem.W.methodObj (.ref f) (.ref y)):=x
  show h'.get? a=some (PySem.W.methodObj (.ref f) (.ref y))
  exact k a _ (.inl rfl) e
 | ext φ=>obtain⟨p,⟨o,e⟩,st⟩:=x;exact⟨st _ _ p fun o q=>k _ _ (.inl rfl) q,⟨o,k _ _ (.inl rfl) e⟩,st⟩
theorem HOk.lt(x:HOk P w H h)(e:H a=some o):a<h.objs.size:=(x a o e).lt
theorem HOk.fresh(x:HOk P w H h)(e:h.objs.size≤a):H a=none:=by
 cases q:H a with
 | none=>rfl
 | some u=>exact absurd (Nat.lt_of_lt_of_le (x.lt q) e) (Nat.lt_irrefl _)
theorem HOk.kept(x:HOk P w H h)(k:∀ b u,h.get? b=some u→h'.get? b=some u):HOk P w H h':=fun a o e =>
 (x a o e).stay (fun b u _ q=>k b u q) (fun _ q=>q) fun _ _ q=>q
theorem HOk.laid(x:HOk P w H h)(k:∀ b u,h.get? b=some u→h'.get? b=some u)(hp:h.objs.size≤a)(new:ObjOk P w (upd H a o) h' a o):HOk P w (upd H a o) h':=fun b u e=>by
 have hn:=x.fresh hp
 by_cases hb:b=a
 ·subst hb;rw[jag] at e;cases e;exact new
 ·rw[jaj hb] at e
  exact (x b u e).stay (fun c v _ q=>k c v q) (fun c q=>by rw[jaj (jas q hn)];exact q) fun c xs q=>by rw[jaj (jas q hn)];exact q
end
noncomputable def Rd(H:Hp)(a:Addr)(u:HO):Prop:=H a=some u∨∃ o,H a=some (.frz o u)
theorem Rd.ok{P:Program}{w:World}{H:Hp}{h:Heap}{a:Addr}{u:HO}(r:Rd H a u)(x:HOk P w H h):ObjOk P w H h a u:=by
 rcases r with r|⟨o,r⟩
 ·exact x a u r
 ·obtain⟨_,q⟩:=x a _ r
  exact q
noncomputable def Mut:Option HO→Prop
 | some (.lst _)=>True
 | some (.dK _)=>True
 | some (.dT _)=>True
 | some (.set _ _)=>True
 | some (.ins _ _ _)=>True
 | some (.ext _)=>True
 | _=>False
section
variable {P:Program}{w:World}{H:Hp}{h h':Heap}{x e:Addr}{o':HO}
theorem HOk.write(ok:HOk P w H h)(mu:Mut (H x))(he:e=x∨H e=some (.own x))(k:∀ b u,b≠e→h.get? b=some u→h'.get? b=some u)(heo:∃ u,h'.get? e=some u)
  (new:ObjOk P w (upd H x o') h' x o'):HOk P w (upd H x o') h':=fun b u q=>by
 have nown:∀ c y,H c=some (.own y)→c≠x:=fun c y r z=>by subst z;rw[r] at mu;exact mu
 have ntup:∀ c xs,H c=some (.tup xs)→c≠x:=fun c xs r z=>by subst z;rw[r] at mu;exact mu
 by_cases hb:b=x
 ·subst hb;rw[jag] at q;cases q;exact new
 ·rw[jaj hb] at q
  by_cases hbe:b=e
  ·have q':H b=some (.own x):=by
    rcases he with z|z
    ·exact absurd (hbe.trans z) hb
    ·rw[hbe];exact z
   rw[q] at q';cases q'
   obtain⟨v,hv⟩:=heo
   exact⟨v,by rw[hbe];exact hv⟩
  ·refine (ok b u q).stay (fun c v hc r=>k c v ?_ r) (fun c r=>by rw[jaj (nown c b r)];exact r) fun c xs r=>by rw[jaj (ntup c xs r)];exact r
   rcases hc with rfl|hc
   ·exact hbe
   ·rintro rfl
    rcases he with z|z
    ·exact nown c b hc z
    ·rw[hc] at z;cases z;exact hb rfl
end
structure Un(fs ex:List Addr)(H H':Hp)(h h':Heap):Prop where
 keep:∀ b o,h.get? b=some o→H b=none→b∉fs→b∉ex→h'.get? b=some o
 slot:∀ b o,h.get? b=some o→H b=none→b∈fs→b∉ex→∃ sl,h'.get? b=some { o with slots:=sl }
 free:∀ b o,h.get? b=some o→H b=none→b∉ex→H' b=none
 there:∀ b o,h.get? b=some o→b∉ex→∃ o',h'.get? b=some o'
 tups:∀ b xs,H b=some (.tup xs)→H' b=some (.tup xs)
 frzs:∀ b o u,H b=some (.frz o u)→H' b=some (.frz o u)
 tbls:∀ b ps,H b=some (.tbl ps)→∃ more,H' b=some (.tbl (ps++more))
section
variable {fs fs' ex ex':List Addr}{H H1 H2:Hp}{h h1 h2 h':Heap}{a x e:Addr}{o:HO}
theorem Un.any(u:Un fs ex H H1 h h1){b:Addr}{ob:Obj}(q:h.get? b=some ob)(n:H b=none)(hx:b∉ex):∃ sl,h1.get? b=some { ob with slots:=sl }:=by
 by_cases hb:b∈fs
 ·exact u.slot b ob q n hb hx
 ·exact⟨ob.slots,u.keep b ob q n hb hx⟩
theorem Un.kept(k:∀ b u,h.get? b=some u→h'.get? b=some u):Un fs ex H H h h' :=
 ⟨fun b ob q _ _ _=>k b ob q,fun b ob q _ _ _=>⟨ob.slots,k b ob q⟩,fun _ _ _ n _=>n,fun b ob q _=>⟨ob,k b ob q⟩,fun _ _ q=>q,fun _ _ _ q=>q,fun _ ps q=>⟨#[],by rw[q];simp⟩⟩
theorem Un.refl:Un fs ex H H h h:=Un.kept fun _ _ q=>q
theorem Un.laid(k:∀ b u,h.get? b=some u→h'.get? b=some u)(hp:h.objs.size≤a)(hn:H a=none):Un fs ex H (upd H a o) h h' where
 keep:=fun b u q _ _ _=>k b u q
 slot:=fun b u q _ _ _=>⟨u.slots,k b u q⟩
 free:=fun b u q n _=>by rw[jaj (Nat.ne_of_lt (Nat.lt_of_lt_of_le (Heap.lt_size q) hp))];exact n
 there:=fun b u q _=>⟨u,k b u q⟩
 tups:=fun b xs q=>by rw[jaj (jas q hn)];exact q
 frzs:=fun b u xs q=>by rw[jaj (jas q hn)];exact q
 tbls:=fun b ps q=>⟨#[],by rw[jaj (jas q hn),q];simp⟩
theorem Un.write(mu:Mut (H x))(he:e=x∨H e=some (.own x))(k:∀ b u,b≠e→h.get? b=some u→h'.get? b=some u)(heo:∃ u,h'.get? e=some u):Un fs ex H (upd H x o) h h':=by
 have hx:∀ b,H b=none→b≠x:=fun b n z=>by subst z;rw[n] at mu;exact mu
 have hb:∀ b,H b=none→b≠e:=fun b n z=>by
  subst z
  rcases he with r|r
  ·exact hx b n r
  ·rw[n] at r;cases r
 have hm:∀ b u,H b=some u→¬ Mut (some u)→b≠x:=fun b u q nm z=>by subst z;rw[q] at mu;exact nm mu
 refine⟨fun b u q n _ _=>k b u (hb b n) q,fun b u q n _ _=>⟨u.slots,k b u (hb b n) q⟩,fun b u q n _=>by rw[jaj (hx b n)];exact n,fun b u q _=>?_,
  fun b xs q=>by rw[jaj (hm b _ q fun z=>z)];exact q,fun b u xs q=>by rw[jaj (hm b _ q fun z=>z)];exact q,fun b ps q=>⟨#[],by rw[jaj (hm b _ q fun z=>z),q];simp⟩⟩
 by_cases hbe:b=e
 ·subst hbe;exact heo
 ·exact⟨u,k b u hbe q⟩
end
noncomputable def trk(h:Heap)(H:Hp):List Addr:=(List.range h.objs.size).filter fun a=>(H a).isSome
noncomputable def hidT(h:Heap)(H:Hp):Heap:=PySem.W.hideAll h (trk h H)
theorem jpo(h:Heap)(H:Hp):(hidT h H).objs.size=h.objs.size:=PySem.W.hideAll_size _ _
theorem jsh{h:Heap}{H:Hp}{b:Addr}{o:Obj}(e:h.get? b=some o)(n:H b=none):(hidT h H).get? b=some o :=
 PySem.W.hideAll_get _ e fun hm=>by
  have q:(H b).isSome=true:=(List.mem_filter.mp hm).2
  rw[n] at q;simp at q
theorem jwf{h:Heap}{H:Hp}{b:Addr}{o:Obj}(e:(hidT h H).get? b=some o):h.get? b=some o∧H b=none:=by
 have e':h.get? b=some o:=PySem.W.of_hideAll (trk h H) e
 refine⟨e',?_⟩
 cases q:H b with
 | none=>rfl
 | some x =>
  have hm:b∈trk h H:=List.mem_filter.mpr ⟨List.mem_range.mpr (Heap.lt_size e'),by simp[q]⟩
  have z:(hidT h H).get? b=none:=PySem.W.hideAll_none (trk h H) hm
  rw[z] at e;cases e
noncomputable def ju3(g h:Heap)(L:Addr):List (Addr×Obj):=(List.range h.objs.size).filterMap fun a=>if a=L∨(g.get? a).isSome=true then none else (h.get? a).map fun o=>(a,o)
noncomputable def rest(g h:Heap)(L d:Addr):List (Addr×Obj):=(ju3 g h L).filter fun p=>decide (p.1≠d)
structure Mod(K:PySem.W.Frag)(mg:Str→Option Value)(base:Heap):Prop where
 kin:K.In base
 glob:base.Ns mainGlobals mg
 blt:∃ mb,base.Ns builtinsNs mb∧∀ x:Str,x≠"__name__"→mb x=bootBuiltins x
 nolimit:base.NoLimit
structure Cx where
 prog:Program
 w:World
 K:PySem.W.Frag
 mg:Str→Option Value
 base:Heap
 A:Around
 N:List Str
 s₀:Shared
 H₀:Hp
 env:Env
 outer:List Env
 stack:List Env
 ex:List Addr
 fn:Str→Bool
 calm:Bool
 pn:List (Addr×Obj)
 xe:Value→Shared→Prop
noncomputable def frs(l:List Env):List Addr:=l.filterMap (·.frame)
noncomputable abbrev Cx.fs(X:Cx):List Addr:=frs X.outer
noncomputable def Vis(sc:Scope)(x:Str):Prop:=sc.names.lookup x=some .local∨sc.names.lookup x=some .cell∨sc.names.lookup x=some .free
noncomputable def Loc(sc:Scope)(x:Str):Prop:=sc.names.lookup x=some .local∨sc.names.lookup x=some .cell
noncomputable def Look(env:Env)(h:Heap)(m:Str→Option Value)(x:Str)(u:Value):Prop :=
 (env.kindOf x=some .local∧m x=some u)∨((env.kindOf x=some .cell∨env.kindOf x=some .free)∧∃ c,env.cells.lookup x=some c∧h.IsCell c (some u))
structure Cx.Ok(X:Cx):Prop where
 mod:Mod X.K X.mg X.base
 kind:X.env.scope.kind=.function
 glob:X.env.globals=mainGlobals
 blt:X.env.builtins=builtinsNs
 above:X.s₀.heap.objs.size≤X.env.locals
 inj:∀ x y c,X.env.cells.lookup x=some c→X.env.cells.lookup y=some c→x=y
 has:∀ x,(X.env.kindOf x=some .cell∨X.env.kindOf x=some .free)→∃ c,X.env.cells.lookup x=some c
 cab:∀ x c,X.fn x=true→X.env.cells.lookup x=some c→X.s₀.heap.objs.size≤c
 hd:X.calm=true→X.A.handled=none
 frames:X.A.frames=some X.stack
 stk:X.stack=X.outer∨(X.stack=X.env::X.outer∧X.env.frame=some X.env.locals)
 exf:∀ b∈X.ex,b≠X.env.locals∧∀ x c,X.env.cells.lookup x=some c→c≠b
 bs:∀ b o,X.base.get? b=some o→X.s₀.heap.get? b=some o∧X.H₀ b=none
 bsz:X.base.objs.size≤X.s₀.heap.objs.size
 noex:∀ b o,X.base.get? b=some o→b∉X.ex
 exfs:∀ b∈X.ex,b∉X.fs
 funs:X.s₀.heap.FunFrames X.base X.outer
 frf:∀ b∈X.fs,X.H₀ b=none
structure Inv(X:Cx)(pins:List (Addr×Obj))(σ:List (Option V))(H:Hp)(s:Shared):Prop where
 ok:X.Ok
 os:s.os=X.s₀.os
 bare:AllBare s.gens
 base:Un X.fs X.ex X.H₀ H X.s₀.heap s.heap
 loc:∃ m,s.heap.Ns X.env.locals m∧∀ (i:Nat) (x:Str) (v:V),X.N[i]? = some x→σ[i]? = some (some v)→Vis X.env.scope x→∃ u,RelV v u∧Look X.env s.heap m x u
 cell:∀ x c,X.env.cells.lookup x=some c→∃ v,s.heap.IsCell c v
 free:H X.env.locals=none
 freeC:∀ x c,X.env.cells.lookup x=some c→H c=none
 pin:∀ p∈X.pn++pins,s.heap.get? p.1=some p.2∧H p.1=none∧p.1≠X.env.locals∧p.1∉X.fs∧∀ v,p.2.data≠.cell v
 hok:HOk X.prog X.w H s.heap
 len:σ.length=X.N.length
section
variable {X:Cx}{pins:List (Addr×Obj)}{σ:List (Option V)}{H H':Hp}{s:Shared}{h':Heap}
theorem Cx.Ok.nofr(ok:X.Ok){b:Addr}{o:Obj}(e:X.base.get? b=some o):b∉X.fs:=fun hb=>by
 have:=(ok.funs.mem hb).1
 rw[e] at this;cases this
theorem Inv.bs(I:Inv X pins σ H s):∀ b o,X.base.get? b=some o→s.heap.get? b=some o∧H b=none:=fun b o e =>
 ⟨I.base.keep b o (I.ok.bs b o e).1 (I.ok.bs b o e).2 (I.ok.nofr e) (I.ok.noex b o e),I.base.free b o (I.ok.bs b o e).1 (I.ok.bs b o e).2 (I.ok.noex b o e)⟩
theorem Inv.bk(I:Inv X pins σ H s):∀ b o,X.base.get? b=some o→s.heap.get? b=some o:=fun b o e=>(I.bs b o e).1
theorem Inv.mod(I:Inv X pins σ H s):Mod X.K X.mg X.base:=I.ok.mod
theorem Inv.kIn(I:Inv X pins σ H s):X.K.In s.heap:=I.ok.mod.kin.keeps I.bk
theorem Inv.lt(I:Inv X pins σ H s):X.env.locals<s.heap.objs.size:=let ⟨_,hn,_⟩:=I.loc;hn.lt
theorem Inv.sz(I:Inv X pins σ H s):X.s₀.heap.objs.size≤s.heap.objs.size:=Nat.le_trans I.ok.above (Nat.le_of_lt I.lt)
theorem Inv.nofs(I:Inv X pins σ H s){a:Addr}(h:s.heap.objs.size≤a):a∉X.fs:=fun hb=>by
 obtain⟨_,o,ho,_⟩:=I.ok.funs.mem hb
 exact absurd (Nat.lt_of_lt_of_le (Heap.lt_size ho) (Nat.le_trans I.sz h)) (Nat.lt_irrefl _)
theorem Inv.cne(I:Inv X pins σ H s):∀ x c,X.env.cells.lookup x=some c→c≠X.env.locals:=fun x c e z=>by
 obtain⟨v,o,ho,hd⟩:=I.cell x c e
 obtain⟨m,⟨o',es,ep,ho',hd',_⟩,_⟩:=I.loc
 rw[z,ho'] at ho;cases ho;rw[hd'] at hd;cases hd
theorem Inv.funs(I:Inv X pins σ H s):s.heap.FunFrames X.base X.outer:=by
 have all:∀ (l:List Env),(∀ b∈frs l,b∈X.fs)→X.s₀.heap.FunFrames X.base l→s.heap.FunFrames X.base l:=by
  intro l
  induction l with
  | nil=>intro _ _;trivial
  | cons env r ih =>
   intro hs hl
   obtain⟨hk,⟨L,o,hf,hn,ho,hd⟩,hr⟩:=hl
   have hL:L∈X.fs:=hs L (by unfold frs;rw[List.filterMap_cons,hf];exact List.mem_cons_self)
   obtain⟨sl,e⟩:=I.base.slot L o ho (I.ok.frf L hL) hL fun z=>I.ok.exfs L z hL
   exact⟨hk,⟨L,_,hf,hn,e,hd⟩,ih (fun b hb=>hs b (by unfold frs;rw[List.filterMap_cons,hf];exact List.mem_cons_of_mem _ hb)) hr⟩
 exact all X.outer (fun _ hb=>hb) I.ok.funs
theorem Inv.stack(I:Inv X pins σ H s):s.heap.FunFrames X.base X.stack:=by
 rcases I.ok.stk with e|⟨e,hf⟩
 ·rw[e];exact I.funs
 ·rw[e]
  obtain⟨m,hn,_⟩:=I.loc
  refine .cons (by rw[I.ok.kind];decide) hf hn ?_ I.funs
  exact Heap.get?_none_of_le (Nat.le_trans I.ok.bsz I.ok.above)
theorem Inv.stkSub(I:Inv X pins σ H s):∀ b∈frs X.stack,b∈X.env.locals::X.fs:=fun b hb=>by
 rcases I.ok.stk with e|⟨e,hf⟩
 ·rw[e] at hb;exact List.mem_cons_of_mem _ hb
 ·rw[e] at hb
  unfold frs at hb
  rw[List.filterMap_cons,hf] at hb
  exact hb
theorem Inv.stkFree(I:Inv X pins σ H s):∀ b∈frs X.stack,H b=none:=fun b hb=>by
 rcases List.mem_cons.mp (I.stkSub b hb) with e|hb
 ·rw[e];exact I.free
 ·obtain⟨_,o,ho,_⟩:=I.ok.funs.mem hb
  exact I.base.free b o ho (I.ok.frf b hb) fun z=>I.ok.exfs b z hb
theorem Inv.step{g':Array GenState}{t':Nat}{d':Drawn}{ch:List Addr}(I:Inv X pins σ H s)
  (hch:∀ b∈ch,(b∈X.ex∨X.s₀.heap.objs.size≤b)∧b≠X.env.locals∧(∀ x c,X.env.cells.lookup x=some c→c≠b)∧∀ p∈X.pn++pins,p.1≠b)
  (keep:∀ b o,b≠X.env.locals→b∉X.fs→b∉ch→s.heap.get? b=some o→H b=none→h'.get? b=some o)
  (slot:∀ b o,b≠X.env.locals→b∈X.fs→b∉ch→s.heap.get? b=some o→H b=none→∃ sl,h'.get? b=some { o with slots:=sl }) (free:∀ b o,b∉ch→s.heap.get? b=some o→H b=none→H' b=none)
  (there:∀ b o,b∉ch→s.heap.get? b=some o→∃ o',h'.get? b=some o')
  (tups:∀ b xs,H b=some (.tup xs)→H' b=some (.tup xs)) (frzs:∀ b o u,H b=some (.frz o u)→H' b=some (.frz o u)) (tbls:∀ b ps,H b=some (.tbl ps)→∃ more,H' b=some (.tbl (ps++more)))
  (ns:∀ m,s.heap.Ns X.env.locals m→h'.Ns X.env.locals m) (hok:HOk X.prog X.w H' h') (hg:AllBare g') :
  Inv X pins σ H' { s with heap:=h',gens:=g',drawn:=d',toks:=t' }:=by
 have neL:∀ b o,X.s₀.heap.get? b=some o→b≠X.env.locals:=fun b o e=>Nat.ne_of_lt (Nat.lt_of_lt_of_le (Heap.lt_size e) I.ok.above)
 have neC:∀ b o,X.s₀.heap.get? b=some o→b∉X.ex→b∉ch:=fun b o e hx hb=>by
  rcases (hch b hb).1 with z|z
  ·exact hx z
  ·exact absurd (Nat.lt_of_lt_of_le (Heap.lt_size e) z) (Nat.lt_irrefl _)
 have cellK:∀ x c,X.env.cells.lookup x=some c→∀ v,s.heap.IsCell c v→h'.IsCell c v:=fun x c e v ⟨o,ho,hd⟩=>by
  have nch:c∉ch:=fun z=>(hch c z).2.2.1 x c e rfl
  by_cases hc:c∈X.fs
  ·obtain⟨sl,q⟩:=slot c o (I.cne x c e) hc nch ho (I.freeC x c e)
   exact⟨_,q,hd⟩
  ·exact⟨o,keep c o (I.cne x c e) hc nch ho (I.freeC x c e),hd⟩
 refine⟨I.ok,I.os,hg,⟨fun b o e n hb hx=>?_,fun b o e n hb hx=>?_,fun b o e n hx=>?_,fun b o e hx=>?_,fun b xs e=>tups b xs (I.base.tups b xs e),fun b o xs e=>frzs b o xs (I.base.frzs b o xs e),fun b ps e=>?_⟩,?_,fun x c e=>?_,?_,fun x c e=>?_,fun p hp=>?_,hok,I.len⟩
 ·exact keep b o (neL b o e) hb (neC b o e hx) (I.base.keep b o e n hb hx) (I.base.free b o e n hx)
 ·obtain⟨sl,e1⟩:=I.base.slot b o e n hb hx
  obtain⟨sl',e2⟩:=slot b _ (neL b o e) hb (neC b o e hx) e1 (I.base.free b o e n hx)
  exact⟨sl',e2⟩
 ·obtain⟨o',e1⟩:=I.base.there b o e hx
  exact free b o' (neC b o e hx) e1 (I.base.free b o e n hx)
 ·obtain⟨o',e1⟩:=I.base.there b o e hx
  exact there b o' (neC b o e hx) e1
 ·obtain⟨m1,e1⟩:=I.base.tbls b ps e
  obtain⟨m2,e2⟩:=tbls b _ e1
  exact⟨m1++m2,by rw[e2,Array.append_assoc]⟩
 ·obtain⟨m,hn,hl⟩:=I.loc
  refine⟨m,ns m hn,fun i x v e1 e2 e3=>?_⟩
  obtain⟨u,r,l⟩:=hl i x v e1 e2 e3
  refine⟨u,r,?_⟩
  rcases l with l|⟨k,c,e,z⟩
  ·exact .inl l
  ·exact .inr ⟨k,c,e,cellK x c e _ z⟩
 ·obtain⟨v,z⟩:=I.cell x c e
  exact⟨v,cellK x c e v z⟩
 ·obtain⟨m,⟨o,_,_,ho,_⟩,_⟩:=I.loc
  exact free _ o (fun z=>(hch _ z).2.1 rfl) ho I.free
 ·obtain⟨v,o,ho,hd⟩:=I.cell x c e
  exact free c o (fun z=>(hch c z).2.2.1 x c e rfl) ho (I.freeC x c e)
 ·obtain⟨e,n,ne,nf,d⟩:=I.pin p hp
  have nch:p.1∉ch:=fun z=>(hch p.1 z).2.2.2 p hp rfl
  exact⟨keep p.1 p.2 ne nf nch e n,free p.1 p.2 nch e n,ne,nf,d⟩
theorem Inv.un{t':Nat}(I:Inv X pins σ H s)(u:Un X.fs [] H H' s.heap h')(hok:HOk X.prog X.w H' h'):Inv X pins σ H' { s with heap:=h',toks:=t' }:=by
 obtain⟨m,⟨o,es,ep,ho,r⟩,_⟩:=id I.loc
 obtain⟨sl,hL⟩:=u.any ho I.free (by simp)
 exact I.step (g':=s.gens) (d':=s.drawn) (ch:=[]) (fun _ z=>nomatch z) (fun b o _ hb _ e n=>u.keep b o e n hb (by simp)) (fun b o _ hb _ e n=>u.slot b o e n hb (by simp)) (fun b o _ e n=>u.free b o e n (by simp)) (fun b o _ e=>u.there b o e (by simp)) u.tups u.frzs u.tbls (fun m' hm=>by
  obtain⟨o',es',ep',ho',r'⟩:=hm
  rw[ho] at ho';cases ho'
  exact⟨_,es',ep',hL,r'⟩) hok I.bare
theorem Inv.call{g':Array GenState}{t':Nat}{d':Drawn}{ch:List Addr}(I:Inv X pins σ H s)(u:Un (frs X.stack) ch H H' s.heap h')(hok:HOk X.prog X.w H' h')(hg:AllBare g')
  (hch:∀ b∈ch,(b∈X.ex∨X.s₀.heap.objs.size≤b)∧b≠X.env.locals∧(∀ x c,X.env.cells.lookup x=some c→c≠b)∧∀ p∈X.pn++pins,p.1≠b) :
  Inv X pins σ H' { s with heap:=h',gens:=g',drawn:=d',toks:=t' }:=by
 obtain⟨m,⟨o,es,ep,ho,r⟩,_⟩:=id I.loc
 obtain⟨sl,hL⟩:=u.any ho I.free fun z=>(hch _ z).2.1 rfl
 exact I.step (ch:=ch) hch (fun b o hL hb hc e n=>u.keep b o e n (fun z=>(List.mem_cons.mp (I.stkSub b z)).elim hL hb) hc) (fun b o _ _ hc e n=>u.any e n hc) (fun b o hc e n=>u.free b o e n hc) (fun b o hc e=>u.there b o e hc) u.tups u.frzs u.tbls (fun m' hm=>by
  obtain⟨o',es',ep',ho',r'⟩:=hm
  rw[ho] at ho';cases ho'
  exact⟨_,es',ep',hL,r'⟩) hok hg
theorem Inv.turned{t':Nat}{it:Addr}(I:Inv X pins σ H s)(k:∀ b o,b≠it→s.heap.get? b=some o→h'.get? b=some o)(hn:H it=none)(hL:it≠X.env.locals)
  (h1:it∈X.ex∨X.s₀.heap.objs.size≤it) (h2:∀ x c,X.env.cells.lookup x=some c→c≠it) (h3:∀ p∈X.pn++pins,p.1≠it):Inv X pins σ H { s with heap:=h',toks:=t' }:=by
 have nit:∀ b u,H b=some u→b≠it:=fun b u e z=>by rw[z,hn] at e;cases e
 refine I.step (g':=s.gens) (d':=s.drawn) (ch:=[it]) (fun b hb=>?_) (fun b o _ _ hc e _=>k b o (fun z=>hc (by simp[z])) e) (fun b o _ _ hc e _=>⟨o.slots,k b o (fun z=>hc (by simp[z])) e⟩) (fun _ _ _ _ n=>n)
  (fun b o hc e=>⟨o,k b o (fun z=>hc (by simp[z])) e⟩) (fun _ _ e=>e) (fun _ _ _ e=>e) (fun b ps e=>⟨#[],by rw[e];simp⟩) (fun m hm=>?_) (fun b u e=>?_) I.bare
 ·have e:b=it:=by simpa using hb
  subst e
  exact⟨h1,hL,h2,h3⟩
 ·obtain⟨o,es,ep,ho,r⟩:=hm
  exact⟨o,es,ep,k _ o (Ne.symm hL) ho,r⟩
 ·refine (I.hok b u e).stay (fun c v hc q=>k c v ?_ q) (fun _ q=>q) fun _ _ q=>q
  rcases hc with z|z
  ·rw[z];exact nit b u e
  ·exact nit c _ z
theorem Inv.tok(I:Inv X pins σ H s)(t:Nat):Inv X pins σ H { s with toks:=t }:=I.un (h':=s.heap) (t':=t) Un.refl I.hok
theorem Inv.kept{t':Nat}(I:Inv X pins σ H s)(k:∀ b u,s.heap.get? b=some u→h'.get? b=some u):Inv X pins σ H { s with heap:=h',toks:=t' }:=I.un (Un.kept k) (I.hok.kept k)
theorem Inv.laid{a:Addr}{o:HO}{t':Nat}(I:Inv X pins σ H s)(k:∀ b u,s.heap.get? b=some u→h'.get? b=some u)(hp:s.heap.objs.size≤a)(new:ObjOk X.prog X.w (upd H a o) h' a o) :
  Inv X pins σ (upd H a o) { s with heap:=h',toks:=t' }:=I.un (Un.laid k hp (I.hok.fresh hp)) (I.hok.laid k hp new)
theorem Inv.write{x e:Addr}{o:HO}{t':Nat}(I:Inv X pins σ H s)(mu:Mut (H x))(he:e=x∨H e=some (.own x))(k:∀ b u,b≠e→s.heap.get? b=some u→h'.get? b=some u)(heo:∃ u,h'.get? e=some u)
  (new:ObjOk X.prog X.w (upd H x o) h' x o):Inv X pins σ (upd H x o) { s with heap:=h',toks:=t' }:=I.un (Un.write mu he k heo) (I.hok.write mu he k heo new)
theorem Inv.pins_of{pins':List (Addr×Obj)}(I:Inv X pins σ H s)(h:∀ p∈pins',s.heap.get? p.1=some p.2∧H p.1=none∧p.1≠X.env.locals∧p.1∉X.fs∧∀ v,p.2.data≠.cell v):Inv X pins' σ H s :=
 ⟨I.ok,I.os,I.bare,I.base,I.loc,I.cell,I.free,I.freeC,fun p hp=>(List.mem_append.mp hp).elim (fun z=>I.pin p (List.mem_append_left _ z)) (h p),I.hok,I.len⟩
theorem jm4{N:List Str}(hN:N.Nodup){i j:Nat}{x:Str}(a:N[i]? = some x)(b:N[j]? = some x):i=j:=by
 obtain⟨h1,e1⟩:=List.getElem?_eq_some_iff.mp a
 obtain⟨h2,e2⟩:=List.getElem?_eq_some_iff.mp b
 exact (List.getElem_inj hN).mp (e1.trans e2.symm)
theorem jla{M:Model}{A:Around}{E:Value→Shared→Prop}{i:Nat}{x:Str}{v:V}{u:Value}{Q:Unit→Shared→Prop}(I:Inv X pins σ H s)(hN:X.N.Nodup)(hi:X.N[i]? = some x)(hx:Loc X.env.scope x)(r:RelV v u)
  (h:∀ s',Inv X pins (σ.set i (some v)) H s'→(∃ a,Heap.SameBut a s.heap s'.heap∧(a=X.env.locals∨X.env.cells.lookup x=some a))→Q () s') (hf:autoParam (X.fn x=true∨X.env.scope.names.lookup x=some .local) zau0._auto_1):wpAny M A (storeName X.env x u) Q E s:=by
 obtain⟨m,hn,hl⟩:=id I.loc
 have hcls:(X.env.scope.kind == .class || (X.env.scope.kind == .module&&X.env.locals != X.env.globals))=false:=by rw[I.ok.kind];rfl
 have hiσ:i<σ.length:=by rw[I.len];exact (List.getElem?_eq_some_iff.mp hi).1
 have cne:=I.cne
 have tracked:∀ {a:Addr} {h':Heap},(∃ o,s.heap.get? a=some o∧H a=none)→Heap.SameBut a s.heap h'→HOk X.prog X.w H h':=fun {a h'} ha hs b ob e=>by
  obtain⟨_,_,hfree⟩:=ha
  refine (I.hok b ob e).stay (fun c w' hc q=>(hs.2 c ?_).trans q) (fun _ q=>q) fun _ _ q=>q
  rintro rfl
  rcases hc with rfl|hc
  ·rw[hfree] at e;cases e
  ·rw[hfree] at hc;cases hc
 rcases hx with hk|hk
 ·refine wpAny_storeName_local hk hn (fun h' hn' hs=>?_) hcls
  obtain⟨oL,_,_,hoL,_⟩:=id hn
  refine h _ ⟨I.ok,I.os,I.bare,⟨fun b o e n hb hx=>?_,fun b o e n hb hx=>?_,I.base.free,fun b o e hx=>?_,I.base.tups,I.base.frzs,I.base.tbls⟩,⟨_,hn',fun j y v' e1 e2 e3=>?_⟩,fun y c e=>?_,I.free,I.freeC,fun p hp=>?_,tracked ⟨oL,hoL,I.free⟩ hs,by simpa using I.len⟩ ⟨_,hs,.inl rfl⟩
  ·exact (hs.2 b (Nat.ne_of_lt (Nat.lt_of_lt_of_le (Heap.lt_size e) I.ok.above))).trans (I.base.keep b o e n hb hx)
  ·obtain⟨sl,e1⟩:=I.base.slot b o e n hb hx
   exact⟨sl,(hs.2 b (Nat.ne_of_lt (Nat.lt_of_lt_of_le (Heap.lt_size e) I.ok.above))).trans e1⟩
  ·obtain⟨o',e1⟩:=I.base.there b o e hx
   exact⟨o',(hs.2 b (Nat.ne_of_lt (Nat.lt_of_lt_of_le (Heap.lt_size e) I.ok.above))).trans e1⟩
  ·by_cases hj:j=i
   ·subst hj
    rw[hi] at e1;cases e1
    rw[List.getElem?_set_self hiσ] at e2
    cases e2
    exact⟨u,r,.inl ⟨hk,by simp⟩⟩
   ·rw[List.getElem?_set_ne (Ne.symm hj)] at e2
    obtain⟨u',r',q⟩:=hl j y v' e1 e2 e3
    refine⟨u',r',?_⟩
    rcases q with ⟨k,e⟩|⟨k,c,e,z⟩
    ·refine .inl ⟨k,?_⟩
     have:y≠x:=fun e=>hj (jm4 hN e1 (e ▸ hi))
     simp[this,e]
    ·exact .inr ⟨k,c,e,z.sameBut hs (cne y c e)⟩
  ·obtain⟨w',z⟩:=I.cell y c e
   exact⟨w',z.sameBut hs (cne y c e)⟩
  ·obtain⟨e,n,ne,nf,d⟩:=I.pin p hp
   exact⟨(hs.2 p.1 ne).trans e,n,ne,nf,d⟩
 ·have hfn:X.fn x=true:=by
   rcases hf with z|z
   ·exact z
   ·rw[z] at hk;cases hk
  obtain⟨c,hc⟩:=I.ok.has x (.inl hk)
  obtain⟨w',z⟩:=I.cell x c hc
  refine wpAny_storeName_cell I.ok.kind hk hc z (fun h' hc' hs=>?_)
  obtain⟨oc,hoc,hocd⟩:=id z
  refine h { s with heap:=h' } ⟨I.ok,I.os,I.bare,⟨fun b o e n hb hx=>?_,fun b o e n hb hx=>?_,I.base.free,fun b o e hx=>?_,I.base.tups,I.base.frzs,I.base.tbls⟩,⟨m,hn.sameBut hs (Ne.symm (cne x c hc)),fun j y v' e1 e2 e3=>?_⟩,fun y c' e=>?_,I.free,I.freeC,fun p hp=>?_,tracked ⟨oc,hoc,I.freeC x c hc⟩ hs,by simpa using I.len⟩ ⟨c,hs,.inr hc⟩
  ·exact (hs.2 b (Nat.ne_of_lt (Nat.lt_of_lt_of_le (Heap.lt_size e) (I.ok.cab x c hfn hc)))).trans (I.base.keep b o e n hb hx)
  ·obtain⟨sl,e1⟩:=I.base.slot b o e n hb hx
   exact⟨sl,(hs.2 b (Nat.ne_of_lt (Nat.lt_of_lt_of_le (Heap.lt_size e) (I.ok.cab x c hfn hc)))).trans e1⟩
  ·obtain⟨o',e1⟩:=I.base.there b o e hx
   exact⟨o',(hs.2 b (Nat.ne_of_lt (Nat.lt_of_lt_of_le (Heap.lt_size e) (I.ok.cab x c hfn hc)))).trans e1⟩
  ·by_cases hj:j=i
   ·subst hj
    rw[hi] at e1;cases e1
    rw[List.getElem?_set_self hiσ] at e2
    cases e2
    exact⟨u,r,.inr ⟨.inl hk,c,hc,hc'⟩⟩
   ·rw[List.getElem?_set_ne (Ne.symm hj)] at e2
    obtain⟨u',r',q⟩:=hl j y v' e1 e2 e3
    refine⟨u',r',?_⟩
    rcases q with q|⟨k,c',e,z'⟩
    ·exact .inl q
    ·refine .inr ⟨k,c',e,z'.sameBut hs ?_⟩
     rintro rfl
     exact hj (jm4 hN e1 (I.ok.inj _ _ _ e hc ▸ hi))
  ·by_cases hcc:c'=c
   ·subst hcc;exact⟨_,hc'⟩
   ·obtain⟨w2,z2⟩:=I.cell y c' e
    exact⟨w2,z2.sameBut hs hcc⟩
  ·obtain⟨e,n,ne,nf,d⟩:=I.pin p hp
   refine⟨(hs.2 p.1 ?_).trans e,n,ne,nf,d⟩
   intro q
   rw[q,hoc] at e
   have q':oc=p.2:=Option.some.inj e
   exact d w' (by rw[← q'];exact hocd)
theorem jnj{M:Model}{A:Around}{E:Value→Shared→Prop}{i:Nat}{x:Str}{v:V}{u:Value}{Q:Unit→Shared→Prop}(I:Inv X pins σ H s)(hN:X.N.Nodup)(hi:X.N[i]? = some x)(hx:Loc X.env.scope x)(r:RelV v u)
  (h:∀ s',Inv X pins (σ.set i (some v)) H s'→Q () s') (hf:autoParam (X.fn x=true∨X.env.scope.names.lookup x=some .local) zau0._auto_1):wpAny M A (storeName X.env x u) Q E s :=
 jla I hN hi hx r (fun s' I' _=>h s' I') hf
theorem Inv.call'{s':Shared}{ch:List Addr}(I:Inv X pins σ H s)(ho:s'.os=s.os)(u:Un (frs X.stack) ch H H' s.heap s'.heap)(hok:HOk X.prog X.w H' s'.heap)(hg:AllBare s'.gens)
  (hch:∀ b∈ch,(b∈X.ex∨X.s₀.heap.objs.size≤b)∧b≠X.env.locals∧(∀ x c,X.env.cells.lookup x=some c→c≠b)∧∀ p∈X.pn++pins,p.1≠b):Inv X pins σ H' s':=by
 obtain⟨h',g',d',t',o'⟩:=s'
 have e:o'=s.os:=ho
 subst e
 exact I.call (g':=g') (t':=t') (d':=d') u hok hg hch
end
noncomputable abbrev XK:=Value→Option Addr→Hp→Prop
noncomputable abbrev St:=List (Option V)
noncomputable abbrev VK:=V→Hp→Prop
noncomputable abbrev TE:=St→Hp→VK→Prop
noncomputable abbrev TT:=St→Hp→(Bool→Hp→Prop)→Prop
noncomputable abbrev TA:=St→Hp→(List V→Hp→Prop)→Prop
structure Ends where
 nx:St→Hp→Prop
 rt:VK
 bk:St→Hp→Prop:=fun _ _=>False
 ct:St→Hp→Prop:=fun _ _=>False
noncomputable abbrev TS:=Ends→St→Hp→Prop
inductive EP(X:Cx)(pins:List (Addr×Obj))(σ:St)(Q:VK)(u:Value)(s':Shared):Prop
 | mk (v:V) (H':Hp) (h0:Inv X pins σ H' s') (h1:RelV v u) (h2:Q v H')
inductive TP(X:Cx)(pins:List (Addr×Obj))(σ:St)(Q:Bool→Hp→Prop)(b:Bool)(s':Shared):Prop
 | mk (H':Hp) (h0:Inv X pins σ H' s') (h1:Q b H')
inductive AP(X:Cx)(pins:List (Addr×Obj))(σ:St)(Q:List V→Hp→Prop)(us:List Value)(s':Shared):Prop
 | mk (vs:List V) (H':Hp) (h0:Inv X pins σ H' s') (h1:Vals vs us) (h2:Q vs H')
noncomputable def SP(X:Cx)(pins:List (Addr×Obj))(D:Ends)(f:Flow)(s':Shared):Prop :=
 match f with
 | .next=>∃ σ' H',Inv X pins σ' H' s'∧D.nx σ' H'
 | .brk=>∃ σ' H',Inv X pins σ' H' s'∧D.bk σ' H'
 | .cont=>∃ σ' H',Inv X pins σ' H' s'∧D.ct σ' H'
 | .ret u=>∃ v σ' H',Inv X pins σ' H' s'∧RelV v u∧D.rt v H'
noncomputable def PE(X:Cx)(e:Expr)(t:TE):Prop :=
 ∀ (pins:List (Addr×Obj)) (s:Shared) (σ:St) (H:Hp) (Q:VK),Inv X pins σ H s→t σ H Q→wpAny (model X.prog X.w) X.A (eval e X.env) (EP X pins σ Q) X.xe s
noncomputable def PT(X:Cx)(e:Expr)(t:TT):Prop :=
 ∀ (pins:List (Addr×Obj)) (s:Shared) (σ:St) (H:Hp) (Q:Bool→Hp→Prop),Inv X pins σ H s→t σ H Q→wpAny (model X.prog X.w) X.A (isTrue e X.env (eval e X.env)) (TP X pins σ Q) X.xe s
noncomputable def PW(X:Cx)(e:Expr)(t:TT):Prop :=
 ∀ (whole:Sem Value) (pins:List (Addr×Obj)) (s:Shared) (σ:St) (H:Hp) (Q:Bool→Hp→Prop),Inv X pins σ H s→t σ H Q→wpAny (model X.prog X.w) X.A (isTrue e X.env whole) (TP X pins σ Q) X.xe s
theorem PW.pt{X:Cx}{e:Expr}{t:TT}(h:PW X e t):PT X e t:=h _
noncomputable def PA(X:Cx)(es:List Expr)(t:TA):Prop :=
 ∀ (pos:Pos) (pins:List (Addr×Obj)) (s:Shared) (σ:St) (H:Hp) (Q:List V→Hp→Prop),Inv X pins σ H s→t σ H Q→wpAny (model X.prog X.w) X.A (spliced (backTo pos (starEach es X.env))) (AP X pins σ Q) X.xe s
noncomputable def PS(X:Cx)(st:Stmt)(t:TS):Prop :=
 ∀ (pins:List (Addr×Obj)) (s:Shared) (σ:St) (H:Hp) (D:Ends),Inv X pins σ H s→t D σ H→wpAny (model X.prog X.w) X.A (exec st X.env) (SP X pins D) X.xe s
noncomputable def PSs(X:Cx)(st:List Stmt)(t:TS):Prop :=
 ∀ (pins:List (Addr×Obj)) (s:Shared) (σ:St) (H:Hp) (D:Ends),Inv X pins σ H s→t D σ H→wpAny (model X.prog X.w) X.A (execs st X.env) (SP X pins D) X.xe s
theorem thn{α:Type}{t:Sem α}{Q Q':α→Shared→Prop}{M:Model}{A:Around}{E:Value→Shared→Prop}{s:Shared}(h:wpAny M A t Q E s)(hQ:∀ a s,Q a s→Q' a s):wpAny M A t Q' E s:=wpAny_mono h hQ fun _ _ x=>x
section
variable {X:Cx}
noncomputable def tVar(i:Nat):TE:=fun σ H Q=>∃ v,σ[i]? = some (some v)∧Q v H
noncomputable def tC(v:V):TE:=fun _ H Q=>Q v H
theorem jm9{i:Nat}{x:Str}{pos:Pos}(hN:X.N[i]? = some x)(hv:Vis X.env.scope x)(hd:autoParam ((x == ("__debug__":Str))=false) zau1._auto_1)(hcd:autoParam ((x == ("__classdict__":Str))=false) zau1._auto_1):PE X (.Name x pos) (tVar i):=by
 intro pins s σ H Q I h
 obtain⟨v,e,h⟩:=h
 obtain⟨m,hn,hl⟩:=I.loc
 obtain⟨u,r,l⟩:=hl i x v hN e hv
 have fin:EP X pins σ Q u s:=⟨v,H,I,r,h⟩
 rcases l with ⟨hk,hm⟩|⟨hk,c,hc,hcell⟩
 ·exact wpAny_Name (wpAny_loadName_local I.ok.kind hk hn hm fin) hd
 ·rcases hk with hk|hk
  ·exact wpAny_Name (wpAny_loadName_cell I.ok.kind hk hc hcell fin) hd
  ·exact wpAny_Name (wpAny_loadName_free I.ok.kind hk hc hcell fin hcd) hd
theorem jzu{i j pos}:PE X (.Constant (.int i) j pos) (tC (.int i)):=fun _ _ _ H _ I h=>wpAny_Constant_int ⟨.int i,H,I.tok _,⟨_,rfl⟩,h⟩
theorem jB6{b j pos}:PE X (.Constant (.bool b) j pos) (tC (.bl b)):=fun _ _ _ H _ I h=>Constant_bool ⟨.bl b,H,I,rfl,h⟩
theorem jzv{j pos}:PE X (.Constant .none j pos) (tC .non):=fun _ _ _ H _ I h=>Constant_none ⟨.non,H,I,rfl,h⟩
theorem jzx{x j pos}:PE X (.Constant (.str x) j pos) (tC (.str x)):=fun _ _ _ H _ I h=>Calls.Constant_str ⟨.str x,H,I.tok _,⟨_,rfl⟩,h⟩
noncomputable def Gl(X:Cx)(x:Str):Prop:=X.env.kindOf x=some .globalImplicit
theorem jpx{E:Value→Shared→Prop}{pins:List (Addr×Obj)}{s:Shared}{σ:St}{H:Hp}{x:Str}{u:Value}{pos:Pos}{Q:Value→Shared→Prop}(I:Inv X pins σ H s)(hg:Gl X x)(hm:X.mg x=some u)(h:Q u s)
  (hd:autoParam ((x == ("__debug__":Str))=false) zau1._auto_1):wpAny (model X.prog X.w) X.A (eval (.Name x pos) X.env) Q E s :=
 Calls.Name_function_global I.ok.kind hg (Calls.loadGlobal_global (by rw[I.ok.glob];exact I.mod.glob.keeps I.bk) hm h) hd
theorem jhf{E:Value→Shared→Prop}{pins:List (Addr×Obj)}{s:Shared}{σ:St}{H:Hp}{x:Str}{u:Value}{pos:Pos}{Q:Value→Shared→Prop}(I:Inv X pins σ H s)(hg:Gl X x)(hm:X.mg x=none)(hv:bootBuiltins x=some u)(h:Q u s)
  (hn:autoParam (x≠"__name__") zau1._auto_1) (hd:autoParam ((x == ("__debug__":Str))=false) zau1._auto_1):wpAny (model X.prog X.w) X.A (eval (.Name x pos) X.env) Q E s:=by
 obtain⟨mb,h1,h2⟩:=I.mod.blt
 exact Calls.Name_function_global I.ok.kind hg (Calls.loadGlobal_builtin (by rw[I.ok.glob];exact I.mod.glob.keeps I.bk) hm (by rw[I.ok.blt];exact h1.keeps I.bk) ((h2 x hn).trans hv) h) hd
theorem jwm{x:Str}{v:V}{u:Value}{pos:Pos}(hg:Gl X x)(hm:X.mg x=none)(hv:bootBuiltins x=some u)(r:RelV v u)(hn:autoParam (x≠"__name__") zau1._auto_1)(hd:autoParam ((x == ("__debug__":Str))=false) zau1._auto_1):PE X (.Name x pos) (tC v) :=
 fun _ _ _ H _ I h=>jhf I hg hm hv ⟨v,H,I,r,h⟩ hn hd
variable {a b:Expr}{ta tb:TE}{pos:Pos}
noncomputable def tB(t:TE):TT:=fun σ H Q=>t σ H fun x H1=>∃ c,x=.bl c∧Q c H1
variable {tA tB':TT}{rest:List Expr}
noncomputable def tAnd(t u:TT):TT:=fun σ H Q=>t σ H fun c H1=>if c=true then u σ H1 Q else Q false H1
noncomputable def tOr(t u:TT):TT:=fun σ H Q=>t σ H fun c H1=>if c=true then Q true H1 else u σ H1 Q
noncomputable def tNot(t:TT):TT:=fun σ H Q=>t σ H fun c H1=>Q (!c) H1
theorem jww(ha:PT X a tA):PW X (.BoolOp .And [a] pos) tA:=by
 intro wh pins s σ H Q I h
 refine isTrue_and (thn (ha pins s σ H Q I h) fun c s1 e=>?_)
 cases c with
 | true=>exact isTrue_and_nil e
 | false=>exact e
theorem jz4(ha:PT X a tA):PW X (.BoolOp .Or [a] pos) tA:=by
 intro wh pins s σ H Q I h
 refine isTrue_or (thn (ha pins s σ H Q I h) fun c s1 e=>?_)
 cases c with
 | false=>exact isTrue_or_nil e
 | true=>exact e
theorem jz3(ha:PT X a tA)(hb:PW X (.BoolOp .And (b::rest) pos) tB'):PW X (.BoolOp .And (a::b::rest) pos) (tAnd tA tB'):=by
 intro wh pins s σ H Q I h
 refine isTrue_and (thn (ha pins s σ H _ I h) fun c s1 hzz=>?_)
 obtain⟨H1,I1,q1⟩:=hzz
 cases c with
 | true=>exact hb wh pins s1 σ H1 Q I1 q1
 | false=>exact⟨H1,I1,q1⟩
theorem jB7(ha:PT X a tA)(hb:PW X (.BoolOp .Or (b::rest) pos) tB'):PW X (.BoolOp .Or (a::b::rest) pos) (tOr tA tB'):=by
 intro wh pins s σ H Q I h
 refine isTrue_or (thn (ha pins s σ H _ I h) fun c s1 hzz=>?_)
 obtain⟨H1,I1,q1⟩:=hzz
 cases c with
 | true=>exact⟨H1,I1,q1⟩
 | false=>exact hb wh pins s1 σ H1 Q I1 q1
theorem jz2(ha:PT X a tA):PT X (.UnaryOp .Not a pos) (tNot tA):=by
 intro pins s σ H Q I h
 exact isTrue_not (thn (ha pins s σ H (fun c H1=>Q (!c) H1) I h) fun c s1 z=>z.casesOn fun H1 I1 q1=>⟨H1,I1,q1⟩)
noncomputable def jCk(ta tb:TE):TE:=fun σ H Q=>ta σ H fun x H1=>∃ c,x=.bl c∧if c=true then tb σ H1 Q else Q (.bl false) H1
theorem jzw{op}{t:TE}(h:PE X a t):PE X (.BoolOp op [a] pos) t:=fun pins s σ H Q I hw=>BoolOp_one (h pins s σ H Q I hw)
theorem jzp(ha:PE X a ta)(hb:PE X (.BoolOp .And (b::rest) pos) tb):PE X (.BoolOp .And (a::b::rest) pos) (jCk ta tb):=by
 intro pins s σ H Q I h
 refine BoolOp_and (thn (ha pins s σ H _ I h) fun v s1 hzz=>?_)
 obtain⟨x,H1,I1,r1,q1⟩:=hzz
 obtain⟨c,rfl,q1⟩:=q1
 cases r1
 refine wpAny_truthy_bool ?_
 cases c with
 | true=>exact hb pins s1 σ H1 Q I1 q1
 | false=>exact⟨.bl false,H1,I1,rfl,q1⟩
end
noncomputable def SqL(K:PySem.W.Frag)(H:Hp)(a:Addr)(xs:List V):Prop :=
 Rd H a (.lst xs) ∨
  ∃ (o:Obj) (its:Array Value) (n:Nat),K.lookup a=some o∧o.cls=.type "list"∧o.dict=none∧o.data=.seq its n∧its.size≤sizeLine∧Vals xs its.toList
noncomputable def SqT(K:PySem.W.Frag)(H:Hp)(a:Addr)(xs:List V):Prop :=
 Rd H a (.tup xs) ∨
  ∃ (o:Obj) (its:Array Value) (n:Nat),K.lookup a=some o∧o.cls=.type "tuple"∧o.data=.seq its n∧its.size≤sizeLine∧Vals xs its.toList
noncomputable def absV:Value→Option V
 | .none=>some .non
 | .bool b=>some (.bl b)
 | .int i _=>some (.int i)
 | .str x _=>some (.str x)
 | .bytes b _=>some (.byt b)
 | .float b _=>some (.flt b)
 | .ref a=>some (.ref a)
 | .type n=>some (.ty n)
 | _=>none
theorem RelV.abs{x:V}{u:Value}(r:RelV x u):absV u=some x:=by
 cases x with
 | non=>cases r;rfl
 | bl _=>cases r;rfl
 | int _=>obtain⟨t,rfl⟩:=r;rfl
 | str _=>obtain⟨t,rfl⟩:=r;rfl
 | byt _=>obtain⟨t,rfl⟩:=r;rfl
 | flt _=>obtain⟨t,rfl⟩:=r;rfl
 | ref _=>cases r;rfl
 | ty _=>cases r;rfl
theorem RelV.inj{x y:V}{u:Value}(r:RelV x u)(q:RelV y u):x=y:=Option.some.inj (r.abs.symm.trans q.abs)
theorem Vals.inj:∀ {xs ys:List V} {us:List Value},Vals xs us→Vals ys us→xs=ys
 | _,_,_,.nil,.nil=>rfl
 | _,_,_,.cons r t,.cons r' t'=>by rw[r.inj r',Vals.inj t t']
section
variable {X:Cx}{pins:List (Addr×Obj)}{σ:St}{H:Hp}{s:Shared}{a:Addr}{xs ys:List V}
theorem SqL.of{K:PySem.W.Frag}(h:H a=some (.lst xs)):SqL K H a xs:=.inl (.inl h)
theorem SqT.of{K:PySem.W.Frag}(h:H a=some (.tup xs)):SqT K H a xs:=.inl (.inl h)
theorem Inv.list(I:Inv X pins σ H s)(h:SqL X.K H a xs):∃ its:List Value,Vals xs its∧PlainL s.heap a its.toArray∧xs.length≤sizeLine:=by
 rcases h with h|⟨o,its,n,hk,hc,hd,hs,hz,r⟩
 ·obtain⟨z,its,n,r,e⟩:=h.ok I.hok
  exact⟨its,r,⟨_,n,e,rfl,rfl,rfl⟩,z⟩
 ·refine⟨its.toList,r,⟨o,n,I.kIn a o hk,hc,hd,by simpa using hs⟩,?_⟩
  have e:=r.length
  simp only[Array.length_toList] at e
  omega
theorem Inv.tuple(I:Inv X pins σ H s)(h:SqT X.K H a xs):∃ its:List Value,Vals xs its∧IsTup s.heap a its.toArray∧xs.length≤sizeLine:=by
 rcases h with h|⟨o,its,n,hk,hc,hs,hz,r⟩
 ·obtain⟨z,its,r,p⟩:=h.ok I.hok
  exact⟨its,r,p,z⟩
 ·refine⟨its.toList,r,⟨o,I.kIn a o hk,hc,n,by simpa using hs⟩,?_⟩
  have e:=r.length
  simp only[Array.length_toList] at e
  omega
theorem Inv.list_inj(I:Inv X pins σ H s)(h:SqL X.K H a xs)(h':SqL X.K H a ys):xs=ys:=by
 obtain⟨its,r,⟨o,n,e,_,_,d⟩,_⟩:=I.list h
 obtain⟨its',r',⟨o',n',e',_,_,d'⟩,_⟩:=I.list h'
 rw[e] at e';cases e'
 rw[d] at d'
 injection d' with d1 _
 have:its=its':=by simpa using congrArg Array.toList d1
 subst this
 exact r.inj r'
theorem Inv.tuple_inj(I:Inv X pins σ H s)(h:SqT X.K H a xs)(h':SqT X.K H a ys):xs=ys:=by
 obtain⟨its,r,⟨o,e,_,n,d⟩,_⟩:=I.tuple h
 obtain⟨its',r',⟨o',e',_,n',d'⟩,_⟩:=I.tuple h'
 rw[e] at e';cases e'
 rw[d] at d'
 injection d' with d1 _
 have:its=its':=by simpa using congrArg Array.toList d1
 subst this
 exact r.inj r'
end
noncomputable abbrev Cx.wish(X:Cx)(E:Value→Shared→Prop):Cx:={ X with xe:=E }
noncomputable abbrev Cx.nox(X:Cx):Cx:=X.wish fun _ _=>False
theorem Cx.Ok.wish{X:Cx}(ok:X.Ok)(E:Value→Shared→Prop):(X.wish E).Ok :=
 ⟨ok.mod,ok.kind,ok.glob,ok.blt,ok.above,ok.inj,ok.has,ok.cab,ok.hd,ok.frames,ok.stk,ok.exf,ok.bs,ok.bsz,ok.noex,ok.exfs,ok.funs,ok.frf⟩
theorem Cx.Ok.unwish{X:Cx}{E:Value→Shared→Prop}(ok:(X.wish E).Ok):X.Ok :=
 ⟨ok.mod,ok.kind,ok.glob,ok.blt,ok.above,ok.inj,ok.has,ok.cab,ok.hd,ok.frames,ok.stk,ok.exf,ok.bs,ok.bsz,ok.noex,ok.exfs,ok.funs,ok.frf⟩
section
variable {X:Cx}{pins:List (Addr×Obj)}{σ:St}{H:Hp}{s:Shared}{E:Value→Shared→Prop}
theorem Inv.wish(I:Inv X pins σ H s)(E:Value→Shared→Prop):Inv (X.wish E) pins σ H s:=⟨I.ok.wish E,I.os,I.bare,I.base,I.loc,I.cell,I.free,I.freeC,I.pin,I.hok,I.len⟩
theorem Inv.unwish(I:Inv (X.wish E) pins σ H s):Inv X pins σ H s:=⟨I.ok.unwish,I.os,I.bare,I.base,I.loc,I.cell,I.free,I.freeC,I.pin,I.hok,I.len⟩
theorem SP.unwish{D:Ends}{f:Flow}{s':Shared}(h:SP (X.wish E) pins D f s'):SP X pins D f s':=by
 cases f with
 | next=>obtain⟨σ',H',I,q⟩:=h;exact⟨σ',H',I.unwish,q⟩
 | brk=>obtain⟨σ',H',I,q⟩:=h;exact⟨σ',H',I.unwish,q⟩
 | cont=>obtain⟨σ',H',I,q⟩:=h;exact⟨σ',H',I.unwish,q⟩
 | ret u=>obtain⟨v,σ',H',I,r,q⟩:=h;exact⟨v,σ',H',I.unwish,r,q⟩
theorem PSs.nox{st:List Stmt}{t:TS}(h:PSs X.nox st t):PSs X st t:=fun pins s σ H D I hw =>
 wpAny_mono (h pins s σ H D (I.wish _) hw) (fun _ _ q=>q.unwish) fun _ _ z=>False.elim z
end
section
variable {X:Cx}{st:Stmt}{rest:List Stmt}{t u:TS}{e:Expr}{te:TE}{pos:Pos}
noncomputable def jCr:TS:=fun D σ H=>D.nx σ H
noncomputable def tSeq(t u:TS):TS:=fun D σ H=>t { D with nx:=u D } σ H
theorem jq3:PSs X [] jCr:=fun _ _ σ H _ I h=>wpAny_execs_nil ⟨σ,H,I,h⟩
theorem jnc(h1:PS X st t)(h2:PSs X rest u):PSs X (st::rest) (tSeq t u):=by
 intro pins s σ H D I h
 refine wpAny_execs_cons (thn (h1 pins s σ H { D with nx:=u D } I h) fun f s1 q=>?_)
 cases f with
 | next =>
  obtain⟨σ',H',I',q⟩:=q
  exact h2 pins s1 σ' H' D I' q
 | ret v=>exact q
 | brk=>exact q
 | cont=>exact q
theorem jq4(h1:PS X st t):PSs X [st] t:=by
 intro pins s σ H D I h
 refine wpAny_execs_cons (thn (h1 pins s σ H D I h) fun f s1 q=>?_)
 cases f with
 | next=>exact wpAny_execs_nil q
 | ret v=>exact q
 | brk=>exact q
 | cont=>exact q
noncomputable def jAm:TS:=fun D σ H=>D.bk σ H
noncomputable def jCo:TS:=fun D σ H=>D.ct σ H
theorem jtk:PS X (.Break pos) jAm:=fun _ _ σ H _ I h=>wpAny_Break ⟨σ,H,I,h⟩
theorem jmb:PS X (.Continue pos) jCo:=fun _ _ σ H _ I h=>wpAny_Continue ⟨σ,H,I,h⟩
theorem Inv.quiet{pins:List (Addr×Obj)}{σ:St}{H:Hp}{s:Shared}(I:Inv X pins σ H s):interactive X.env=false:=by simp[interactive,I.ok.kind]
noncomputable def jCp(te:TE):TS:=fun D σ H=>te σ H fun _ H1=>D.nx σ H1
theorem jq0(he:PE X e te)(hs:autoParam (swapsWith e none pos.line X.env=pure false) zau2._auto_1):PS X (.Expr e pos) (jCp te):=by
 intro pins s σ H D I h
 exact wpAny_Expr_any (thn (he pins s σ H _ I h) fun v s1 ⟨x,H1,I1,r1,q1⟩=>⟨σ,H1,I1,q1⟩) I.quiet hs
noncomputable def tRet(te:TE):TS:=fun D σ H=>te σ H D.rt
theorem jup(he:PE X e te):PS X (.Return (some e) pos) (tRet te):=by
 intro pins s σ H D I h
 exact wpAny_Return_some (thn (he pins s σ H _ I h) fun v s1 ⟨x,H1,I1,r1,q1⟩=>⟨x,σ,H1,I1,r1,q1⟩)
noncomputable def tIfS(c:TT)(t u:TS):TS:=fun D σ H=>c σ H fun b H1=>if b=true then t D σ H1 else u D σ H1
theorem jz1{c:Expr}{a b:List Stmt}{tc:TT}(hc:PT X c tc)(ha:PSs X a t)(hb:PSs X b u):PS X (.If c a b pos) (tIfS tc t u):=by
 intro pins s σ H D I h
 refine wpAny_If (thn (hc pins s σ H _ I h) fun d s1 hzz=>?_)
 obtain⟨H1,I1,q1⟩:=hzz
 cases d with
 | true=>exact ha pins s1 σ H1 D I1 q1
 | false=>exact hb pins s1 σ H1 D I1 q1
end
noncomputable abbrev TG:=V→St→Hp→(St→Hp→Prop)→Prop
noncomputable abbrev TGs:=List V→St→Hp→(St→Hp→Prop)→Prop
noncomputable def PG(X:Cx)(target:Expr)(t:TG):Prop :=
 ∀ (pins:List (Addr×Obj)) (s:Shared) (σ:St) (H:Hp) (v:V) (u:Value) (Q:St→Hp→Prop),Inv X pins σ H s→RelV v u→t v σ H Q →
  wpAny (model X.prog X.w) X.A (assign target X.env u) (fun _ s'=>∃ σ' H',Inv X pins σ' H' s'∧Q σ' H') X.xe s
noncomputable def PGs(X:Cx)(ts:List Expr)(t:TGs):Prop :=
 ∀ (pins:List (Addr×Obj)) (s:Shared) (σ:St) (H:Hp) (vs:List V) (us:List Value) (Q:St→Hp→Prop),Inv X pins σ H s→Vals vs us→t vs σ H Q →
  wpAny (model X.prog X.w) X.A (assignInOrder ((assignEach ts X.env).map (·.2)) us) (fun _ s'=>∃ σ' H',Inv X pins σ' H' s'∧Q σ' H') X.xe s
noncomputable abbrev TSet:=V→V→V→Hp→(Hp→Prop)→Prop
noncomputable def PSet(X:Cx)(t:TSet):Prop :=
 ∀ (pins:List (Addr×Obj)) (s:Shared) (σ:St) (H:Hp) (o i v:V) (ov iv u:Value) (Q:Hp→Prop),Inv X pins σ H s→RelV o ov→RelV i iv→RelV v u→t o i v H Q →
  wpAny (model X.prog X.w) X.A (setItem ov iv u) (fun _ s'=>∃ H',Inv X pins σ H' s'∧Q H') X.xe s
noncomputable abbrev TIp:=V→V→Hp→VK→Prop
noncomputable def PIp(X:Cx)(op:Operator)(t:TIp):Prop :=
 ∀ (pins:List (Addr×Obj)) (s:Shared) (σ:St) (H:Hp) (x y:V) (v u:Value) (Q:VK),Inv X pins σ H s→RelV x v→RelV y u→t x y H Q →
  wpAny (model X.prog X.w) X.A (inplaceOp op v u) (EP X pins σ Q) X.xe s
section
variable {X:Cx}{pos:Pos}
noncomputable def gName(i:Nat):TG:=fun v σ H Q=>Q (σ.set i (some v)) H
theorem jma{i:Nat}{x:Str}(hN:X.N.Nodup)(hi:X.N[i]? = some x)(hx:Loc X.env.scope x)(hf:autoParam (X.fn x=true∨X.env.scope.names.lookup x=some .local) zau0._auto_1):PG X (.Name x pos) (gName i):=by
 intro pins s σ H v u Q I r h
 exact wpAny_assign_Name (jnj I hN hi hx r (fun s' I'=>⟨_,H,I',h⟩) hf)
noncomputable def gNil:TGs:=fun vs σ H Q=>vs=[]∧Q σ H
noncomputable def jBq(t:TG)(u:TGs):TGs:=fun vs σ H Q=>∃ v r,vs=v::r∧t v σ H fun σ' H'=>u r σ' H' Q
theorem jwr:PGs X [] gNil:=by
 intro pins s σ H vs us Q I r h
 obtain⟨e,h⟩:=h
 subst e
 cases r
 exact assignInOrder_nil ⟨σ,H,I,h⟩
theorem jna{e:Expr}{es:List Expr}{t:TG}{u:TGs}(h1:PG X e t)(h2:PGs X es u)
  (hs:autoParam ((assignEach (e::es) X.env).map (·.2)=assign e X.env::(assignEach es X.env).map (·.2)) zau2._auto_1):PGs X (e::es) (jBq t u):=by
 intro pins s σ H vs us Q I r h
 obtain⟨v,vr,e1,h⟩:=h
 subst e1
 cases r with
 | cons r rr =>
  rw[hs]
  refine assignInOrder_cons (thn (h1 pins s σ H _ _ _ I r h) fun _ s1 hzz=>?_)
  obtain⟨σ1,H1,I1,q1⟩:=hzz
  exact h2 pins s1 σ1 H1 _ _ Q I1 rr q1
noncomputable def gTup(K:PySem.W.Frag)(n:Nat)(t:TGs):TG:=fun v σ H Q=>∃ a xs,v=.ref a∧SqT K H a xs∧xs.length=n∧t xs σ H Q
theorem jzy{es:List Expr}{k:Nat}{t:TGs}{n:Nat}(hc:X.calm=true)(h:PGs X es t)
  (hn:autoParam ((assignEach es X.env).length=n) zau2._auto_1) (hst:autoParam ((assignEach es X.env).findIdx? (·.1)=none) zau2._auto_1):PG X (.Tuple es k pos) (gTup X.K n t):=by
 intro pins s σ H v u Q I r hw
 obtain⟨a,xs,e1,hq,hl,hw⟩:=hw
 subst e1
 cases r
 obtain⟨its,rv,ht,hz⟩:=I.tuple hq
 refine assign_Tuple_tuple (I.ok.hd hc) ht (by simp[hn,← hl,rv.length]) hst fun h' hx=>?_
 have I1:Inv X pins σ H { s with heap:=h' }:=I.kept (t':=s.toks) fun b o e=>hx b o (Nat.ne_of_lt (Heap.lt_size e)) e
 exact h pins _ σ H xs _ Q I1 (by simpa using rv) hw
noncomputable def gSub(to ti:TE)(t:TSet):TG:=fun v σ H Q=>to σ H fun o H1=>ti σ H1 fun i H2=>t o i v H2 fun H3=>Q σ H3
theorem jum{o i:Expr}{to ti:TE}{t:TSet}(ho:PE X o to)(hi:PE X i ti)(hs:PSet X t)
  (ha:∀ v,assign (.Subscript o i pos) X.env v=(do
   let ov ← holding [v] (eval o X.env)
   let iv ← holding [v,ov] (eval i X.env)
   standAt pos
   holding [v,ov,iv] (setItem ov iv v)
   release [v,ov,iv] []):=by intro _;rfl):PG X (.Subscript o i pos) (gSub to ti t):=by
 intro pins s σ H v u Q I r h
 rw[ha]
 refine wpAny_bind (wpAny_holding (thn (ho pins s σ H _ I h) fun ov s1 hzz=>?_))
 obtain⟨x,H1,I1,r1,q1⟩:=hzz
 refine wpAny_bind (wpAny_holding (thn (hi pins s1 σ H1 _ I1 q1) fun iv s2 hzz=>?_))
 obtain⟨y,H2,I2,r2,q2⟩:=hzz
 refine wpAny_bind (wpAny_standAt (wpAny_bind (wpAny_holding (thn (hs pins s2 σ H2 x y v ov iv u _ I2 r1 r2 r q2) fun _ s3 hzz=>?_))))
 obtain⟨H3,I3,q3⟩:=hzz
 exact wpAny_release ⟨σ,H3,I3,q3⟩
noncomputable def tAsg(te:TE)(g:TG):TS:=fun D σ H=>te σ H fun x H1=>g x σ H1 D.nx
theorem juo{tg e:Expr}{te:TE}{g:TG}(he:PE X e te)(hg:PG X tg g)(hs:autoParam (swapsWithSole [tg] e pos.line X.env=pure false) zau2._auto_1)(hw:autoParam (swappedStores [tg] e X.env=pure none) zau2._auto_1)
  (h1:autoParam ((assignEach [tg] X.env).map (·.2)=[assign tg X.env]) zau2._auto_1):PS X (.Assign [tg] e pos) (tAsg te g):=by
 intro pins s σ H D I h
 refine wpAny_Assign_stores (thn (he pins s σ H _ I h) fun v s1 hzz=>?_) hs hw
 obtain⟨x,H1,I1,r1,q1⟩:=hzz
 rw[h1]
 exact thn (hg pins s1 σ H1 x v _ I1 r1 q1) fun _ s2 q=>q
theorem jnb{i:Nat}{x:Str}{e:Expr}{te:TE}{pos':Pos}(hN:X.N.Nodup)(hi:X.N[i]? = some x)(hx:Loc X.env.scope x)(he:PE X e te)(hs:autoParam (swapsWith e (some (.Name x pos')) pos.line X.env=pure false) zau2._auto_1)(hf:autoParam (X.fn x=true∨X.env.scope.names.lookup x=some .local) zau0._auto_1) :
  PS X (.Assign [.Name x pos'] e pos) (tAsg te (gName i)):=by
 intro pins s σ H D I h
 refine wpAny_Assign_Name (thn (he pins s σ H _ I h) fun v s1 hzz=>?_) hs
 obtain⟨y,H1,I1,r1,q1⟩:=hzz
 exact jnj I1 hN hi hx r1 (fun s2 I2=>⟨_,H1,I2,q1⟩) hf
noncomputable def jCl(to ti te:TE)(tget:V→V→Hp→VK→Prop)(tip:TIp)(tset:TSet):TS:=fun D σ H=>to σ H fun o H1=>ti σ H1 fun i H2=>tget o i H2 fun x H3=>te σ H3 fun y H4=>tip x y H4 fun z H5=>tset o i z H5 fun H6=>D.nx σ H6
noncomputable def PGet(X:Cx)(t:V→V→Hp→VK→Prop):Prop :=
 ∀ (pins:List (Addr×Obj)) (s:Shared) (σ:St) (H:Hp) (o i:V) (ov iv:Value) (Q:VK),Inv X pins σ H s→RelV o ov→RelV i iv→t o i H Q →
  wpAny (model X.prog X.w) X.A (getItem ov iv) (EP X pins σ Q) X.xe s
theorem jwu{o i e:Expr}{to ti te:TE}{tget:V→V→Hp→VK→Prop}{tip:TIp}{tset:TSet}{op:Operator}{tpos:Pos}(ho:PE X o to)(hi:PE X i ti)(hg:PGet X tget)(he:PE X e te)(hp:PIp X op tip)(hs:PSet X tset)
  (ha:autoParam (∀ ov iv new,augStore i ov iv new=(do holding [new,ov,iv] (setItem ov iv new);release [new,ov,iv] [];pure .next)) zau3._auto_1):PS X (.AugAssign (.Subscript o i tpos) op e pos) (jCl to ti te tget tip tset):=by
 intro pins s σ H D I h
 refine wpAny_AugAssign_SubscriptAny (thn (ho pins s σ H _ I h) fun ov s1 hzz=>?_) ha
 obtain⟨x1,H1,I1,r1,q1⟩:=hzz
 refine thn (hi pins s1 σ H1 _ I1 q1) fun iv s2 hzz=>?_
 obtain⟨x2,H2,I2,r2,q2⟩:=hzz
 refine thn (hg pins s2 σ H2 x1 x2 ov iv _ I2 r1 r2 q2) fun old s3 hzz=>?_
 obtain⟨x3,H3,I3,r3,q3⟩:=hzz
 refine thn (he pins s3 σ H3 _ I3 q3) fun v s4 hzz=>?_
 obtain⟨x4,H4,I4,r4,q4⟩:=hzz
 refine thn (hp pins s4 σ H4 x3 x4 old v _ I4 r3 r4 q4) fun new s5 hzz=>?_
 obtain⟨x5,H5,I5,r5,q5⟩:=hzz
 exact thn (hs pins s5 σ H5 x1 x2 x5 ov iv new _ I5 r1 r2 r5 q5) fun _ s6 ⟨H6,I6,q6⟩=>⟨σ,H6,I6,q6⟩
noncomputable def ipI(f:Int→Int→Int):TIp:=fun x y H Q=>∃ i j,x=.int i∧y=.int j∧Q (.int (f i j)) H
theorem jyr:PIp X .Add (ipI fun i j=>i+j):=by
 intro pins s σ H x y v u Q I r1 r2 h
 obtain⟨i,j,e1,e2,q⟩:=h
 subst e1;subst e2
 obtain⟨t,rfl⟩:=r1
 obtain⟨t',rfl⟩:=r2
 exact iadd_int ⟨.int _,H,I.tok _,⟨_,rfl⟩,q⟩
end
section
variable {X:Cx}{pos:Pos}
noncomputable def jAt(c:TT)(tb:TS):TS:=fun D σ H=>∃ W:Nat→St→Hp→Prop,(∃ m,W m σ H)∧∀ m σ H,W m σ H →
 c σ H fun b H1=>if b=true then ∃ N:St→Hp→Prop,(∀ σ' H',N σ' H'→∃ m',m'<m∧W m' σ' H')∧tb { D with nx:=N,ct:=N,bk:=D.nx } σ H1 else D.nx σ H1
theorem jtl{c:Expr}{body:List Stmt}{tc:TT}{tb:TS}(hp:PassesOwn (model X.prog X.w) X.A X.env X.xe)(hc:PT X c tc)(hb:PSs X body tb):PS X (.While c body [] pos) (jAt tc tb):=by
 intro pins s σ H D I h
 obtain⟨W,⟨m0,w0⟩,turn⟩:=h
 refine wpAny_While (codeAny_whileLoop (fun n s'=>∃ σ' H',Inv X pins σ' H' s'∧W n σ' H') ?_ m0 ⟨σ,H,I,w0⟩)
 rintro n s1 ⟨σ1,H1,I1,w1⟩
 refine wpAny_passesOwn hp (thn (hc pins s1 σ1 H1 _ I1 (turn n σ1 H1 w1)) fun b s2 hzz=>?_)
 obtain⟨H2,I2,q2⟩:=hzz
 cases b with
 | true =>
  obtain⟨N,hN,q2⟩:=q2
  rw[if_pos rfl]
  refine wpAny_passesOwn hp (thn (hb pins s2 σ1 H2 _ I2 q2) fun f s3 q3=>?_)
  cases f with
  | next =>
   obtain⟨σ3,H3,I3,n3⟩:=q3
   obtain⟨m',hm,w3⟩:=hN σ3 H3 n3
   exact⟨m',hm,σ3,H3,I3,w3⟩
  | cont =>
   obtain⟨σ3,H3,I3,n3⟩:=q3
   obtain⟨m',hm,w3⟩:=hN σ3 H3 n3
   exact⟨m',hm,σ3,H3,I3,w3⟩
  | brk=>exact q3
  | ret v=>exact q3
 | false =>
  rw[if_neg Bool.false_ne_true]
  exact wpAny_execs_nil ⟨σ1,H2,I2,q2⟩
end
structure It where
 go:Nat→Hp→Prop
 yld:Nat→Hp→V→Hp→Prop
 stop:Nat→Hp→Prop
noncomputable def FpOk(X:Cx)(pins:List (Addr×Obj))(H:Hp)(b:Addr):Prop :=
 H b=none∧b≠X.env.locals∧b∉X.fs∧(b∈X.ex∨X.s₀.heap.objs.size≤b)∧(∀ x c,X.env.cells.lookup x=some c→c≠b)∧∀ p∈X.pn++pins,p.1≠b
theorem Inv.fpOk{X:Cx}{pins:List (Addr×Obj)}{σ:St}{H H':Hp}{s:Shared}{b:Addr}(I:Inv X pins σ H s)(hb:s.heap.objs.size≤b)(hn:H' b=none):FpOk X pins H' b:=by
 refine⟨hn,Nat.ne_of_gt (Nat.lt_of_lt_of_le I.lt hb),I.nofs hb,.inr (Nat.le_trans I.sz hb),fun x c e z=>?_,fun p hp z=>?_⟩
 ·obtain⟨v,q⟩:=I.cell x c e
  exact absurd (Nat.lt_of_lt_of_le q.lt (by rw[z];exact hb)) (Nat.lt_irrefl _)
 ·exact absurd (Nat.lt_of_lt_of_le (Heap.lt_size (I.pin p hp).1) (by rw[z];exact hb)) (Nat.lt_irrefl _)
structure Turn(P:Program)(w:World)(K:PySem.W.Frag)(tg:Expr)(J:It)(fp:List Addr)(it:Addr)(tn:Nat→Heap→Prop):Prop where
 mem:it∈fp
 obj:∀ i h,tn i h→∀ b∈fp,∃ o,h.get? b=some o∧∀ v,o.data≠.cell v
 keep:∀ i h h',tn i h→(∀ b∈fp,∀ o,h.get? b=some o→h'.get? b=some o)→tn i h'
 item:∀ (X:Cx),X.prog=P→X.w=w→X.K=K→X.calm=true→∀ (i:Nat) (pins:List (Addr×Obj)) (s:Shared) (σ:St) (H:Hp) (E:Value→Shared→Prop),Inv X pins σ H s→(∀ b∈fp,FpOk X pins H b)→tn i s.heap→J.go i H →
  wpAny (model P w) X.A (pyNext (.ref it)) (fun r s1=>∃ u,r=some u ∧
   wpAny (model P w) X.A (letOwnedTupleGo tg (.ref it) u) (fun _ s2=>∃ x H',Inv X pins σ H' s2∧RelV x u∧J.yld i H x H'∧tn (i+1) s2.heap∧∀ b∈fp,H' b=none) E s1) E s
 done:∀ (X:Cx),X.prog=P→X.w=w→X.K=K→X.calm=true→∀ (i:Nat) (pins:List (Addr×Obj)) (s:Shared) (σ:St) (H:Hp) (E:Value→Shared→Prop),Inv X pins σ H s→(∀ b∈fp,FpOk X pins H b)→tn i s.heap→J.stop i H →
  wpAny (model P w) X.A (pyNext (.ref it)) (fun r s1=>r=none∧Inv X pins σ H s1) E s
 self:∀ (A:Around) (i:Nat) (s:Shared) (Q:Value→Shared→Prop) (E:Value→Shared→Prop),tn i s.heap→Q (.ref it) s→wpAny (model P w) A (pyIter (.ref it)) Q E s
noncomputable abbrev TI:=St→Hp→(It→Hp→Prop)→Prop
noncomputable def PIE(X:Cx)(pins:List (Addr×Obj))(σ:St)(tg:Expr)(R:It→Hp→Prop)(itv:Value)(s2:Shared):Prop :=
 ∃ (it:Addr) (fp:List Addr) (tn:Nat→Heap→Prop) (J:It) (H':Hp),itv=.ref it∧Inv X pins σ H' s2∧Turn X.prog X.w X.K tg J fp it tn∧tn 0 s2.heap∧(∀ b∈fp,FpOk X pins H' b)∧R J H'
noncomputable def PI(X:Cx)(tg iter:Expr)(wi:TI):Prop :=
 ∀ (pins:List (Addr×Obj)) (s:Shared) (σ:St) (H:Hp) (R:It→Hp→Prop),Inv X pins σ H s→wi σ H R →
  wpAny (model X.prog X.w) X.A (eval iter X.env) (fun v s1=>wpAny (model X.prog X.w) X.A (pyIter v) (PIE X pins σ tg R) X.xe s1) X.xe s
theorem jvq{M:Model}{A:Around}{E:Value→Shared→Prop}{s:Shared}{tg:Expr}{it:Addr}{u:Value}{o:Obj}{n:String}{vs:Array Value}{Q:Unit→Shared→Prop}(ho:s.heap.get? it=some o)(hc:o.cls=.type n)(hd:o.data=.fields vs)
    (hn:["enumerate","zip","dict_itemiterator","dict_reverseitemiterator","odict_iterator","itertools.zip_longest","itertools.pairwise"].contains n=false) (hQ:Q () s):wpAny M A (letOwnedTupleGo tg (.ref it) u) Q E s:=by
  unfold letOwnedTupleGo
  cases tg<;>first
    | exact wpAny_pure hQ
    | (cases u<;>first
        | exact wpAny_pure hQ
        | (refine wpAny_bind (wpAny_load ho ?_)
           rw[hc,hd]
           show wpAny M A (if (["enumerate","zip","dict_itemiterator","dict_reverseitemiterator","odict_iterator","itertools.zip_longest","itertools.pairwise"].contains n&&vs[0]? == some (rawInt _))=true then _ else _) Q E s
           rw[if_neg (by intro h;rw[hn,Bool.false_and] at h;cases h)]
           exact wpAny_pure hQ))
noncomputable def Itl(K:PySem.W.Frag)(a:Addr):It :=
 ⟨fun i H=>∃ xs x,SqL K H a xs∧xs[i]? = some x,fun i H x H'=>H'=H∧∀ xs,SqL K H a xs→xs[i]? = some x,fun i H=>∃ xs,SqL K H a xs∧xs.length≤i⟩
noncomputable def Itt(K:PySem.W.Frag)(a:Addr):It :=
 ⟨fun i H=>∃ xs x,SqT K H a xs∧xs[i]? = some x,fun i H x H'=>H'=H∧∀ xs,SqT K H a xs→xs[i]? = some x,fun i H=>∃ xs,SqT K H a xs∧xs.length≤i⟩
theorem jrj{P:Program}{w:World}{K:PySem.W.Frag}{tg:Expr}(a it:Addr):Turn P w K tg (Itl K a) [it] it (fun i h=>h.IsListIter it a i) where
 mem:=by simp
 obj:=fun i h st b hb=>by
  have e:b=it:=by simpa using hb
  subst e
  obtain⟨o,e,c,d⟩:=st
  exact⟨o,e,fun v z=>by rw[d] at z;cases z⟩
 keep:=fun i h h' st k=>st.at fun o e=>k it (by simp) o e
 item:=by
  intro X hP hw hK hc i pins s σ H E I hf st hg
  subst hP hw hK
  obtain⟨xs,x,hq,hx⟩:=hg
  obtain⟨its,rv,p,hz⟩:=I.list hq
  obtain⟨u,hu,ru⟩:=rv.get hx
  obtain⟨f0,f1,f2,f3,f4,f5⟩:=hf it (by simp)
  refine wpAny_pyNext_list_item st p.isList (x:=u) (by simpa using hu) fun h' st' sb=>?_
  have I1:Inv X pins σ H { s with heap:=h' }:=I.turned (t':=s.toks) (fun b o hb e=>(sb.2 b hb).trans e) f0 f1 f3 f4 f5
  obtain⟨o,e,c,d⟩:=id st'
  exact⟨u,rfl,jvq (s:={ s with heap:=h' }) e c d (by decide) ⟨x,H,I1,ru,⟨rfl,fun ys hy=>by rw[I.list_inj hy hq];exact hx⟩,st',fun b hb=>(hf b hb).1⟩⟩
 done:=by
  intro X hP hw hK hc i pins s σ H E I hf st hg
  subst hP hw hK
  obtain⟨xs,hq,hx⟩:=hg
  obtain⟨its,rv,p,hz⟩:=I.list hq
  obtain⟨f0,f1,f2,f3,f4,f5⟩:=hf it (by simp)
  have hl:=rv.length
  exact wpAny_pyNext_list_end (I.ok.hd hc) st p.isList (by simp;omega) fun h' eb=>⟨rfl,I.turned (t':=s.toks) (fun b o hb e=>eb b o hb e) f0 f1 f3 f4 f5⟩
 self:=fun _ _ _ _ _ st h=>wpAny_pyIter_listiter st h
theorem jok{P:Program}{w:World}{K:PySem.W.Frag}{tg:Expr}(a it:Addr):Turn P w K tg (Itt K a) [it] it (fun i h=>h.IsTupleIter it a i) where
 mem:=by simp
 obj:=fun i h st b hb=>by
  have e:b=it:=by simpa using hb
  subst e
  obtain⟨o,e,c,d⟩:=st
  exact⟨o,e,fun v z=>by rw[d] at z;cases z⟩
 keep:=fun i h h' st k=>st.at fun o e=>k it (by simp) o e
 item:=by
  intro X hP hw hK hc i pins s σ H E I hf st hg
  subst hP hw hK
  obtain⟨xs,x,hq,hx⟩:=hg
  obtain⟨its,rv,p,hz⟩:=I.tuple hq
  obtain⟨u,hu,ru⟩:=rv.get hx
  obtain⟨f0,f1,f2,f3,f4,f5⟩:=hf it (by simp)
  refine wpAny_pyNext_tuple_item st (show s.heap.IsTuple a its.toArray from p) (x:=u) (by simpa using hu) fun h' st' sb=>?_
  have I1:Inv X pins σ H { s with heap:=h' }:=I.turned (t':=s.toks) (fun b o hb e=>(sb.2 b hb).trans e) f0 f1 f3 f4 f5
  obtain⟨o,e,c,d⟩:=id st'
  exact⟨u,rfl,jvq (s:={ s with heap:=h' }) e c d (by decide) ⟨x,H,I1,ru,⟨rfl,fun ys hy=>by rw[I.tuple_inj hy hq];exact hx⟩,st',fun b hb=>(hf b hb).1⟩⟩
 done:=by
  intro X hP hw hK hc i pins s σ H E I hf st hg
  subst hP hw hK
  obtain⟨xs,hq,hx⟩:=hg
  obtain⟨its,rv,p,hz⟩:=I.tuple hq
  obtain⟨f0,f1,f2,f3,f4,f5⟩:=hf it (by simp)
  have hl:=rv.length
  exact wpAny_pyNext_tuple_end (I.ok.hd hc) st (show s.heap.IsTuple a its.toArray from p) (by simp;omega) fun h' eb=>⟨rfl,I.turned (t':=s.toks) (fun b o hb e=>eb b o hb e) f0 f1 f3 f4 f5⟩
 self:=fun _ _ _ _ _ st h=>wpAny_pyIter_tupleiter st h
section
variable {X:Cx}{tg:Expr}
noncomputable def tFor(wi:TI)(g:TG)(tb:TS):TS:=fun D σ H=>wi σ H fun J H1=>∃ W:Nat→Nat→St→Hp→Prop,(∃ m,W 0 m σ H1)∧∀ i m σ H,W i m σ H →
 (J.stop i H∧D.nx σ H)∨(J.go i H∧∃ N:St→Hp→Prop,(∀ σ' H',N σ' H'→∃ m',m'<m∧W (i+1) m' σ' H')∧∀ x H',J.yld i H x H'→g x σ H' fun σ2 H2=>tb { D with nx:=N,ct:=N,bk:=D.nx } σ2 H2)
noncomputable def jio(fp:List Addr)(h:Heap):List (Addr×Obj):=fp.filterMap fun b=>(h.get? b).map fun o=>(b,o)
theorem jdc{fp:List Addr}{h:Heap}{b:Addr}{o:Obj}(hb:b∈fp)(e:h.get? b=some o):(b,o)∈jio fp h:=List.mem_filterMap.mpr ⟨b,hb,by rw[e];rfl⟩
theorem jqm{fp:List Addr}{h:Heap}{p:Addr×Obj}(hp:p∈jio fp h):p.1∈fp∧h.get? p.1=some p.2:=by
 obtain⟨b,hb,e⟩:=List.mem_filterMap.mp hp
 cases q:h.get? b with
 | none=>rw[q] at e;cases e
 | some o =>
  rw[q] at e
  have e':(b,o)=p:=Option.some.inj e
  subst e'
  exact⟨hb,q⟩
theorem Inv.pinned{pins:List (Addr×Obj)}{σ:St}{H:Hp}{s:Shared}{fp:List Addr}(I:Inv X pins σ H s)(hf:∀ b∈fp,FpOk X pins H b)(ho:∀ b∈fp,∃ o,s.heap.get? b=some o∧∀ v,o.data≠.cell v):Inv X (pins++jio fp s.heap) σ H s :=
 I.pins_of fun p hp=>(List.mem_append.mp hp).elim (fun z=>I.pin p (List.mem_append_right _ z)) fun z=>by
  obtain⟨hb,e⟩:=jqm z
  obtain⟨f0,f1,f2,_⟩:=hf p.1 hb
  obtain⟨o,e',d⟩:=ho p.1 hb
  rw[e] at e';cases e'
  exact⟨e,f0,f1,f2,d⟩
theorem Inv.unpinned{pins pl:List (Addr×Obj)}{σ:St}{H:Hp}{s:Shared}(I:Inv X (pins++pl) σ H s):Inv X pins σ H s:=I.pins_of fun p hp=>I.pin p (List.mem_append_right _ (List.mem_append_left _ hp))
theorem jq1{iter:Expr}{body:List Stmt}{wi:TI}{g:TG}{tb:TS}{pos:Pos}(hp:PassesOwn (model X.prog X.w) X.A X.env X.xe)(hc:X.calm=true)(hi:PI X tg iter wi)(hg:PG X tg g)(hb:PSs X body tb)
  (hs:autoParam (∀ x,foldedSetIterable iter X.env x=pure x) zau4._auto_1):PS X (.For tg iter body [] pos) (tFor wi g tb):=by
 intro pins s σ H D I h
 refine wpAny_For (thn (hi pins s σ H _ I h) fun v s1 h1=>thn h1 fun itv s2 h2=>?_) hs
 obtain⟨it,fp,tn,J,H2,e,I2,T,st2,f2,W,⟨m0,w0⟩,turn⟩:=h2
 subst e
 have stat:∀ {H':Hp},(∀ b∈fp,H' b=none)→∀ b∈fp,FpOk X pins H' b:=fun hn b hb=>⟨hn b hb,(f2 b hb).2⟩
 refine codeAny_forLoop_any (fun n s'=>∃ i σ' H',Inv X pins σ' H' s'∧tn i s'.heap∧(∀ b∈fp,H' b=none)∧W i n σ' H') ?_ m0 ⟨0,σ,H2,I2,st2,fun b hb=>(f2 b hb).1,w0⟩
 rintro n s3 ⟨i,σ3,H3,I3,st3,fr3,w3⟩
 rcases turn i n σ3 H3 w3 with ⟨stop,qn⟩|⟨go,N,hN,step⟩
 ·refine wpAny_passesOwn hp (thn (T.done X rfl rfl rfl hc i pins s3 σ3 H3 X.xe I3 (stat fr3) st3 stop) fun r s4 hzz=>?_)
  obtain⟨hr,I4⟩:=hzz
  subst hr
  exact wpAny_execs_nil ⟨σ3,H3,I4,qn⟩
 ·refine wpAny_passesOwn hp (thn (T.item X rfl rfl rfl hc i pins s3 σ3 H3 X.xe I3 (stat fr3) st3 go) fun r s4 hzz=>?_)
  obtain⟨u,hr,h4⟩:=hzz
  subst hr
  refine wpAny_passesOwn hp (thn h4 fun _ s5 hzz=>?_)
  obtain⟨x,H5,I5,r5,y5,st5,fr5⟩:=hzz
  have I5':=I5.pinned (stat fr5) (T.obj _ _ st5)
  refine wpAny_passesOwn hp (thn (hg _ s5 σ3 H5 x u _ I5' r5 (step x H5 y5)) fun _ s6 hzz=>?_)
  obtain⟨σ6,H6,I6,q6⟩:=hzz
  refine wpAny_passesOwn hp (thn (hb _ s6 σ6 H6 _ I6 q6) fun f s7 q7=>?_)
  have again:∀ {σ7:St} {H7:Hp},Inv X (pins++jio fp s5.heap) σ7 H7 s7→N σ7 H7→∃ m,m<n∧∃ i σ' H',Inv X pins σ' H' s7∧tn i s7.heap∧(∀ b∈fp,H' b=none)∧W i m σ' H':=fun {σ7 H7} I7 n7=>by
   obtain⟨m',hm,w7⟩:=hN σ7 H7 n7
   refine⟨m',hm,i+1,σ7,H7,I7.unpinned,T.keep _ _ _ st5 fun b hb o e=>(I7.pin (b,o) (List.mem_append_right _ (List.mem_append_right _ (jdc hb e)))).1,fun b hb=>?_,w7⟩
   obtain⟨o,e,d⟩:=T.obj _ _ st5 b hb
   exact (I7.pin (b,o) (List.mem_append_right _ (List.mem_append_right _ (jdc hb e)))).2.1
  cases f with
  | next=>obtain⟨σ7,H7,I7,n7⟩:=q7;exact again I7 n7
  | cont=>obtain⟨σ7,H7,I7,n7⟩:=q7;exact again I7 n7
  | brk=>obtain⟨σ7,H7,I7,q7⟩:=q7;exact⟨σ7,H7,I7.unpinned,q7⟩
  | ret v=>obtain⟨x7,σ7,H7,I7,r7,q7⟩:=q7;exact⟨x7,σ7,H7,I7.unpinned,r7,q7⟩
end
noncomputable abbrev R2:=V→V→Hp→VK→Prop
noncomputable def OpR(X:Cx)(f:Value→Value→Sem Value)(r:R2):Prop :=
 ∀ (pins:List (Addr×Obj)) (s:Shared) (σ:St) (H:Hp) (x y:V) (v u:Value) (Q:VK),Inv X pins σ H s→RelV x v→RelV y u→r x y H Q →
  wpAny (model X.prog X.w) X.A (f v u) (EP X pins σ Q) X.xe s
noncomputable def CallR(X:Cx)(f:Value)(r:List V→Hp→VK→Prop):Prop :=
 ∀ (pins:List (Addr×Obj)) (s:Shared) (σ:St) (H:Hp) (xs:List V) (us:List Value) (Q:VK),Inv X pins σ H s→Vals xs us→r xs H Q →
  wpAny (model X.prog X.w) X.A (call f us) (EP X pins σ Q) X.xe s
noncomputable def TruR(X:Cx)(r:V→Hp→(Bool→Hp→Prop)→Prop):Prop :=
 ∀ (pins:List (Addr×Obj)) (s:Shared) (σ:St) (H:Hp) (x:V) (v:Value) (Q:Bool→Hp→Prop),Inv X pins σ H s→RelV x v→r x H Q →
  wpAny (model X.prog X.w) X.A (truthy v) (TP X pins σ Q) X.xe s
noncomputable def tOp(r:R2)(ta tb:TE):TE:=fun σ H Q=>ta σ H fun x H1=>tb σ H1 fun y H2=>r x y H2 Q
noncomputable def rI(C:Int→Int→Prop)(g:Int→Int→V):R2:=fun x y H Q=>∃ i j,x=.int i∧y=.int j∧C i j∧Q (g i j) H
noncomputable def rI0(g:Int→Int→V):R2:=fun x y H Q=>∃ i j,x=.int i∧y=.int j∧Q (g i j) H
section
variable {X:Cx}{a b c:Expr}{ta tb tc:TE}{pos:Pos}
theorem binT(ha:PE X a ta)(hb:PE X b tb){pins:List (Addr×Obj)}{s:Shared}{σ:St}{H:Hp}{R:V→V→Hp→Prop}(I:Inv X pins σ H s)
  (h:ta σ H fun x H1=>tb σ H1 fun y H2=>R x y H2) {Q:Value→Shared→Prop} {f:Value→Value→Sem Value}
  (hf:∀ v u s2 x y H2,Inv X pins σ H2 s2→RelV x v→RelV y u→R x y H2→wpAny (model X.prog X.w) X.A (f v u) Q X.xe s2) :
  wpAny (model X.prog X.w) X.A (eval a X.env) (fun v s₁=>wpAny (model X.prog X.w) X.A (eval b X.env) (fun u s₂=>wpAny (model X.prog X.w) X.A (f v u) Q X.xe s₂) X.xe s₁) X.xe s:=by
 refine thn (ha pins s σ H _ I h) fun v s1 hzz=>?_
 obtain⟨x,H1,I1,r1,q1⟩:=hzz
 refine thn (hb pins s1 σ H1 _ I1 q1) fun u s2 hzz=>?_
 obtain⟨y,H2,I2,r2,q2⟩:=hzz
 exact hf v u s2 x y H2 I2 r1 r2 q2
theorem jwq{op:Operator}{r:R2}(ho:OpR X (binaryOp op) r)(ha:PE X a ta)(hb:PE X b tb):PE X (.BinOp a op b pos) (tOp r ta tb):=by
 intro pins s σ H Q I h
 exact wpAny_BinOp (binT ha hb I h fun v u s2 x y H2 I2 rx ry q=>ho pins s2 σ H2 x y v u Q I2 rx ry q)
theorem opI{f:Value→Value→Sem Value}{C:Int→Int→Prop}{g:Int→Int→Int}
  (rule:∀ (i j:Int) (t u:Tok) (s:Shared) (Q:Value→Shared→Prop) (E:Value→Shared→Prop),C i j→Q (.int (g i j) s.toks) { s with toks:=s.toks+1 }→wpAny (model X.prog X.w) X.A (f (.int i t) (.int j u)) Q E s) :
  OpR X f (rI C fun i j=>.int (g i j)):=by
 intro pins s σ H x y v u Q I rx ry h
 obtain⟨i,j,rfl,rfl,hc,q⟩:=h
 obtain⟨t,rfl⟩:=rx
 obtain⟨t',rfl⟩:=ry
 exact rule i j t t' s _ _ hc ⟨.int (g i j),H,I.tok _,⟨_,rfl⟩,q⟩
theorem opI0{f:Value→Value→Sem Value}{g:Int→Int→Int}
  (rule:∀ (i j:Int) (t u:Tok) (s:Shared) (Q:Value→Shared→Prop) (E:Value→Shared→Prop),Q (.int (g i j) s.toks) { s with toks:=s.toks+1 }→wpAny (model X.prog X.w) X.A (f (.int i t) (.int j u)) Q E s) :
  OpR X f (rI0 fun i j=>.int (g i j)):=by
 intro pins s σ H x y v u Q I rx ry h
 obtain⟨i,j,rfl,rfl,q⟩:=h
 obtain⟨t,rfl⟩:=rx
 obtain⟨t',rfl⟩:=ry
 exact rule i j t t' s _ _ ⟨.int (g i j),H,I.tok _,⟨_,rfl⟩,q⟩
theorem opB0{f:Value→Value→Sem Value}{g:Int→Int→Bool}
  (rule:∀ (i j:Int) (t u:Tok) (s:Shared) (Q:Value→Shared→Prop) (E:Value→Shared→Prop),Q (.bool (g i j)) s→wpAny (model X.prog X.w) X.A (f (.int i t) (.int j u)) Q E s) :
  OpR X f (rI0 fun i j=>.bl (g i j)):=by
 intro pins s σ H x y v u Q I rx ry h
 obtain⟨i,j,rfl,rfl,q⟩:=h
 obtain⟨t,rfl⟩:=rx
 obtain⟨t',rfl⟩:=ry
 exact rule i j t t' s _ _ ⟨.bl (g i j),H,I,rfl,q⟩
theorem op_add:OpR X (binaryOp .Add) (rI0 fun i j=>.int (i+j)):=opI0 fun _ _ _ _ _ _ _ q=>add_int q
theorem jul:OpR X (binaryOp .Sub) (rI0 fun i j=>.int (i-j)):=opI0 fun _ _ _ _ _ _ _ q=>sub_int q
theorem jcd:OpR X (binaryOp .Mod) (rI (fun _ j=>0<j) fun i j=>.int (i % j)):=opI fun i j _ _ _ _ _ hc q=>by
 have h1:(0:Int)<j:=hc
 exact mod_int' (by omega) (by rw[Int.fmod_eq_emod_of_nonneg i (by omega)];exact q)
end
section
variable {X:Cx}{a b c:Expr}{ta tb tc:TE}{pos:Pos}
theorem jua{pins:List (Addr×Obj)}{σ:St}{H:Hp}{s:Shared}{Q:VK}{k k':Bool}(I:Inv X pins σ H s)(q:Q (.bl k) H)(e:k=k'):EP X pins σ Q (.bool k') s:=by
 subst e
 exact⟨.bl k,H,I,rfl,q⟩
theorem op_lt:OpR X (compareOp .Lt) (rI0 fun i j=>.bl (decide (i<j))):=opB0 fun _ _ _ _ _ _ _ q=>lt_int q
theorem op_le:OpR X (compareOp .LtE) (rI0 fun i j=>.bl (decide (i≤j))):=opB0 fun _ _ _ _ _ _ _ q=>le_int q
theorem op_gt:OpR X (compareOp .Gt) (rI0 fun i j=>.bl (decide (j<i))):=opB0 fun _ _ _ _ _ _ _ q=>gt_int q
theorem jqo:OpR X (compareOp .Lt) (fun x y H Q=>∃ i j,x=.str i∧y=.str j∧Q (.bl (decide (i.cps.toList<j.cps.toList))) H):=by
 intro pins s σ H x y v u Q I rx ry h
 obtain⟨i,j,rfl,rfl,q⟩:=h
 obtain⟨t,rfl⟩:=rx
 obtain⟨t',rfl⟩:=ry
 exact lt_str (jua I q rfl)
theorem jqq:OpR X (compareOp .IsNot) (fun x y H Q=>y=.non∧Q (.bl (!decide (x=.non))) H):=by
 intro pins s σ H x y v u Q I rx ry h
 obtain⟨rfl,q⟩:=h
 cases ry
 refine isnot_none_gen (jua I q ?_)
 cases x<;>first
  | (cases rx;rfl)
  | (obtain⟨t,rfl⟩:=rx;rfl)
theorem OpR.or{f:Value→Value→Sem Value}{r r':R2}(h:OpR X f r)(h':OpR X f r'):OpR X f (fun x y H Q=>r x y H Q∨r' x y H Q):=by
 intro pins s σ H x y v u Q I rx ry q
 rcases q with q|q
 ·exact h pins s σ H x y v u Q I rx ry q
 ·exact h' pins s σ H x y v u Q I rx ry q
theorem jct(b:Expr){op:CmpOp}(h:autoParam (op≠.In) zau1._auto_1)(h2:autoParam (op≠.NotIn) zau1._auto_1):behindInMarks op b=false:=by
 have e1:(op == CmpOp.In)=false:=by cases op<;>first|rfl|exact absurd rfl h
 have e2:(op == CmpOp.NotIn)=false:=by cases op<;>first|rfl|exact absurd rfl h2
 cases b<;>simp[behindInMarks,e1,e2]
theorem jwn{op:CmpOp}{r:R2}(ho:OpR X (compareOp op) r)(ha:PE X a ta)(hb:PE X b tb)(hm:behindInMarks op b=false):PE X (.Compare a [op] [b] pos) (tOp r ta tb):=by
 intro pins s σ H Q I h
 exact wpAny_Compare1 (binT ha hb I h fun v u s2 x y H2 I2 rx ry q=>ho pins s2 σ H2 x y v u Q I2 rx ry q) hm
noncomputable def jCt(t:TE):TT:=fun σ H Q=>t σ H fun x H'=>∃ k,x=.bl k∧Q k H'
theorem jjm{op:CmpOp}{r:R2}(ho:OpR X (compareOp op) r)(ha:PE X a ta)(hb:PE X b tb)(hm:behindInMarks op b=false):PT X (.Compare a [op] [b] pos) (jCt (tOp r ta tb)):=by
 intro pins s σ H Q I h
 refine wpAny_isTrue_Compare1 (thn (ha pins s σ H _ I h) fun v s1 ⟨x,H1,I1,r1,q1⟩=>thn (hb pins s1 σ H1 _ I1 q1) fun u s2 ⟨y,H2,I2,r2,q2⟩ =>
  thn (ho pins s2 σ H2 x y v u _ I2 r1 r2 q2) fun c s3 ⟨z,H3,I3,r3,k,e,q3⟩=>?_) hm
 subst e
 cases r3
 exact wpAny_truthy_bool ⟨H3,I3,q3⟩
noncomputable def TruV(K:PySem.W.Frag)(x:V)(H:Hp)(k:Bool):Prop :=
 match x with
 | .non=>k=false
 | .bl b=>k=b
 | .int i=>k=(i != 0)
 | .str y=>y.length≤sizeLine∧k=((y.length:Int) != 0)
 | .byt y=>y.size≤sizeLine∧k=((y.size:Int) != 0)
 | .ref p=>(∃ xs,SqL K H p xs∧k=!xs.isEmpty)∨(∃ xs,SqT K H p xs∧k=!xs.isEmpty)∨∃ kvs,H p=some (.dK kvs)∧k=!kvs.isEmpty
 | _=>False
theorem jnw{κ:Type}{kvs:List (κ×V)}{vs:List (κ×Value)}(r:KV kvs vs):(!vs.isEmpty)=!kvs.isEmpty:=by
 cases r<;>rfl
theorem jih{xs:List V}{its:List Value}(r:Vals xs its):(!its.toArray.isEmpty)=!xs.isEmpty:=by
 cases r<;>simp
theorem jhi:(sizeLine:Nat)<2 ^ 63:=by rw[sizeLine_eq];decide
theorem jAv:TruR X (fun x H Q=>∃ k,TruV X.K x H k∧Q k H):=by
 intro pins s σ H x v Q I rx h
 obtain⟨k,e,q⟩:=h
 have hl:=jhi
 have hs:sizeLine=16777216:=sizeLine_eq
 cases x with
 | non =>
  cases rx
  have e':k=false:=e
  subst e'
  exact truthy_none ⟨H,I,q⟩
 | bl b =>
  cases rx
  have e':k=b:=e
  subst e'
  exact wpAny_truthy_bool ⟨H,I,q⟩
 | int i =>
  obtain⟨t,rfl⟩:=rx
  have e':k=(i != 0):=e
  subst e'
  exact PySem.P.truthy_int ⟨H,I,q⟩
 | str y =>
  obtain⟨t,rfl⟩:=rx
  obtain⟨hy,e'⟩:y.length≤sizeLine∧k=((y.length:Int) != 0):=e
  subst e'
  exact PySem.P.truthy_str (by omega) ⟨H,I.tok _,q⟩
 | byt y =>
  obtain⟨t,rfl⟩:=rx
  obtain⟨hy,e'⟩:y.size≤sizeLine∧k=((y.size:Int) != 0):=e
  subst e'
  exact PySem.W.truthy_bytes (by omega) ⟨H,I.tok _,q⟩
 | ref p =>
  cases rx
  have e':(∃ xs,SqL X.K H p xs∧k=!xs.isEmpty)∨(∃ xs,SqT X.K H p xs∧k=!xs.isEmpty)∨∃ kvs,H p=some (.dK kvs)∧k=!kvs.isEmpty:=e
  rcases e' with ⟨xs,hx,e'⟩|⟨xs,hx,e'⟩|⟨kvs,hx,e'⟩
  ·subst e'
   obtain⟨its,r,pl,hz⟩:=I.list hx
   have hlen:=r.length
   exact wpAny_truthy_list pl.isList (by simp only[List.size_toArray];omega) ⟨H,I.tok _,by rw[jih r];exact q⟩
  ·subst e'
   obtain⟨its,r,pl,hz⟩:=I.tuple hx
   have hlen:=r.length
   exact truthy_tuple pl (by simp only[List.size_toArray];omega) ⟨H,I.tok _,by rw[jih r];exact q⟩
  ·subst e'
   obtain⟨hz,hS,vs,r,m⟩:kvs.length≤sizeLine∧(p == sysModules)=false∧∃ vs,KV kvs vs∧s.heap.DictOf (jbo X.prog X.w) p vs:=I.hok p _ hx
   have hlen:kvs.length=vs.length:=Paired.length r
   exact wpAny_truthy_dict hS m (by omega) ⟨H,I.tok _,by rw[jnw r];exact q⟩
 | _=>exact (show False from e).elim
theorem jnd(ha:PE X a ta)(he:∀ whole,isTrue a X.env whole=(do let v ← whole;standAt a.pos;holding [v] (truthy v))) :
  PT X a (fun σ H Q=>ta σ H fun x H'=>∃ k,TruV X.K x H' k∧Q k H'):=by
 intro pins s σ H Q I h
 exact isTrue_plain (thn (ha pins s σ H _ I h) fun v s1 ⟨x,H1,I1,r1,q1⟩=>jAv pins s1 σ H1 x v Q I1 r1 q1) (he _)
theorem jn5:OpR X (binaryOp .Add) (fun x y H Q=>∃ i j,x=.str i∧y=.str j∧i.length+j.length≤sizeLine∧Q (.str (i++j)) H):=by
 intro pins s σ H x y v u Q I rx ry h
 obtain⟨i,j,rfl,rfl,hz,q⟩:=h
 obtain⟨t,rfl⟩:=rx
 obtain⟨t',rfl⟩:=ry
 exact add_str (fun t' tk=>⟨.str (i++j),H,I.tok _,⟨_,rfl⟩,q⟩) hz
theorem jmi{x:V}{us:List Value}(r:Vals [x] us):∃ u,us=[u]∧RelV x u:=by
 cases r with
 | cons r1 r2=>cases r2;exact⟨_,rfl,r1⟩
theorem jCy{x y:V}{us:List Value}(r:Vals [x,y] us):∃ u w',us=[u,w']∧RelV x u∧RelV y w':=by
 cases r with
 | cons r1 r2 =>
  cases r2 with
  | cons r3 r4=>cases r4;exact⟨_,_,rfl,r1,r3⟩
theorem jo0(hc:X.calm=true):CallR X (.builtin "max") (fun xs H Q=>∃ i j,xs=[.int i,.int j]∧Q (.int (if j > i then j else i)) H):=by
 intro pins s σ H xs us Q I r h
 obtain⟨i,j,rfl,q⟩:=h
 obtain⟨u,w',rfl,⟨t,rfl⟩,⟨t',rfl⟩⟩:=jCy r
 refine max_two_ints (I.ok.hd hc) fun h' tk k=>⟨_,H,I.kept k,?_,q⟩
 by_cases hj:j > i
 ·rw[if_pos hj,if_pos hj];exact⟨_,rfl⟩
 ·rw[if_neg hj,if_neg hj];exact⟨_,rfl⟩
end
structure ObjM(h:Heap)(x dx C:Addr)(mA:Str→Option Value):Prop where
 obj:h.get? x=some (PySem.W.instObj C dx)
 ns:h.Ns1 dx mA
 ne:dx≠x
theorem jp4{h:Heap}{dx:Addr}{mA:Str→Option Value}(n:h.Ns1 dx mA):∃ od,h.get? dx=some od∧∀ name,PySem.W.lookIn name od=some (mA name):=by
 obtain⟨o,es,ep,ho,hd,hk,_,hm⟩:=n
 refine⟨o,ho,fun name=>?_⟩
 have e:=hm name
 unfold nsFind findBy at e
 rw[← Array.find?_toList] at e
 unfold PySem.W.lookIn
 rw[hd]
 dsimp only
 split
 ·rename_i y q
  rw[q] at e
  exact congrArg some e
 ·rename_i q
  rw[q] at e
  have a:es.toList.any (·.refKey)=false:=by
   rw[List.any_eq_false]
   intro y hy
   obtain⟨z,t,hkey⟩:=hk y (Array.mem_toList_iff.mp hy)
   simp[DictEntry.refKey,hkey]
  have a':¬ es.toList.any (·.refKey)=true:=by rw[a];exact Bool.false_ne_true
  rw[if_neg a']
  exact congrArg some e
theorem ObjM.look{h:Heap}{x dx C:Addr}{mA:Str→Option Value}(I:ObjM h x dx C mA):∃ od,PySem.W.InstAt h x (PySem.W.instObj C dx) C (some od)∧∀ name,PySem.W.lookIn name od=some (mA name) :=
 let ⟨od,ho,hl⟩:=jp4 I.ns
 ⟨od,⟨I.obj,rfl,rfl,ho⟩,hl⟩
section
variable {prog:Program}{w:World}{A:Around}{E:Value→Shared→Prop}{s:Shared}{K:PySem.W.Frag}{x dx C f:Addr}{mA:Str→Option Value}{name:Str}{v:Value}
theorem jvp{expr:Bool}{Q:Value→Shared→Prop}(X:K.In s.heap)(I:ObjM s.heap x dx C mA)(hg:PySem.W.plainGet K C name=true)(hh:PySem.W.hasDictIn K C=true)
  (ha:PySem.W.findIn K (.ref C) name=some none) (hv:mA name=some v) (hv':PySem.W.handedIn v=true) (h:Q v { s with toks:=s.toks+1 }) :
  wpAny (model prog w) A (getAttr (.ref x) name expr) Q E s:=by
 obtain⟨od,J,hl⟩:=I.look
 exact PySem.W.get_value X J (PySem.W.plainGet_of hg).1 (PySem.W.findObj_own hh ha rfl (by rw[hl,hv])) hv' h
theorem jsg{pl:Sem Bool}{Q:Value×List Value→Shared→Prop}(X:K.In s.heap)(I:ObjM s.heap x dx C mA)(hg:PySem.W.plainGet K C name=true)
  (hf:PySem.W.findIn K (.ref C) name=some (some (.ref f))) (ht:PySem.W.isFn K (.ref f)=true) (hv:mA name=none) (h:Q (.ref f,[.ref x]) s) :
  wpAny (model prog w) A (getMethod (.ref x) name pl) Q E s:=by
 obtain⟨od,J,hl⟩:=I.look
 exact PySem.W.method_fn X J (PySem.W.plainGet_of hg).1 (PySem.W.plainGet_of hg).2 hf (beq_iff_eq.mp ht) (by show (PySem.W.lookIn name od).map (·.isSome)=some false;rw[hl,hv];rfl) h
theorem jxb{ns:List Str}{Q:Unit→Shared→Prop}(X:K.In s.heap)(I:ObjM s.heap x dx C mA)
  (hs:PySem.W.findIn K (.ref C) "__setattr__"=some (some (.builtin "object.__setattr__"))) (hp:PySem.W.plainOver K C=true) (ht:PySem.W.takerIn K C name=some none) (hh:PySem.W.hasDictIn K C=true)
  (hw:PySem.Within mA ns) (hsz:ns.length≤sizeLine)
  (h:∀ h',ObjM h' x dx C (fun y=>if y=name then some v else mA y)→Heap.SameBut dx s.heap h'→Q () { s with heap:=h',toks:=s.toks+2 }) :
  wpAny (model prog w) A (setAttr (.ref x) name v) Q E s:=by
 obtain⟨od,J,hl⟩:=I.look
 refine PySem.W.set_plain X J hs (PySem.W.osa_open (s:={ s with toks:=s.toks+1 }) (r:=none) X J hp ht fun b=>?_)
 obtain⟨cd,hc,hd'⟩:=PySem.W.any_some hh
 have hx:s.heap.get? x=some ⟨.ref C,some dx,.plain,#[]⟩:=I.obj
 refine wpAny_bind (wpAny_pure (wpAny_bind (wpAny_bind (wpAny_loadPart hx (wpAny_bind (PySem.W.Looks.here (s:={ s with toks:=s.toks+1 }) (PySem.W.looks_clsIn X hc) ?_))))))
 rw[hd']
 refine wpAny_pure (a:=some dx) (wpAny_bind (wpAny_pure (wpAny_bind ?_)))
 refine wpAny_nsSet1 (s:={ s with toks:=s.toks+1 }) I.ns fun h' hn2 hs2=>?_
 obtain⟨oD,esD,epD,hoD,hdD,hcD⟩:=hn2.count (PySem.Within.cons name v hw)
 refine wpAny_bind (wpAny_lookBehind hoD (by rw[hdD];exact pastItsLine_dict (Nat.le_trans hcD (by rw[List.length_cons];omega))) ?_)
 exact wpAny_pure (h _ ⟨(hs2.2 _ (Ne.symm I.ne)).trans I.obj,hn2,I.ne⟩ hs2)
theorem jss{R:Result→Shared→Prop}{vs:List Value}{kw:List (Str×Value)}(X:K.In s.heap)(hm:PySem.W.makesIn K C=true)
  (hi:PySem.W.findIn K (.ref C) "__init__"=some (some (.ref f))) (hf:PySem.W.typeIn K (.ref f)=some (.type "function"))
  (h:codeAny (model prog w) (A.under (.builtin "type.__call__" ⟨.ref C::vs,kw⟩)) (.call (.ref f) ⟨.ref (s.heap.objs.size+1)::vs,kw⟩) (PySem.W.InitBack (s.heap.objs.size+1) R)
   { s with heap:=(s.heap.push PySem.W.emptyDict).push (PySem.W.instObj C s.heap.objs.size) }) :
  codeAny (model prog w) A (.call (.ref C) ⟨vs,kw⟩) R s:=by
 obtain⟨hh,g,d,t,os⟩:=s
 exact PySem.W.make_core (PySem.W.makes_of X hm) (PySem.W.looks_findIn X hi) (fun self=>PySem.W.bind_fn X self hf) (.inl rfl) h
end
noncomputable def putF(f:Str)(v:V):List (Str×V)→List (Str×V)
 | []=>[(f,v)]
 | (g,x)::r=>if g=f then (g,v)::r else (g,x)::putF f v r
theorem jhk(f g:Str)(v:V):∀ fs:List (Str×V),(putF f v fs).lookup g=if g=f then some v else fs.lookup g
 | []=>by
  show List.lookup g [(f,v)]=_
  by_cases h:g=f
  ·have hb:(g == f)=true:=beq_iff_eq.mpr h
   simp only[List.lookup,hb,if_pos h]
  ·have hb:(g == f)=false:=beq_eq_false_iff_ne.mpr h
   simp only[List.lookup,hb,if_neg h]
 | (k,x)::r=>by
  have ih:=jhk f g v r
  rw[show putF f v ((k,x)::r)=(if k=f then (k,v)::r else (k,x)::putF f v r) from rfl]
  by_cases hk:k=f
  ·rw[if_pos hk]
   by_cases h:g=k
   ·have hb:(g == k)=true:=beq_iff_eq.mpr h
    simp only[List.lookup,hb,if_pos (h.trans hk)]
   ·have hb:(g == k)=false:=beq_eq_false_iff_ne.mpr h
    simp only[List.lookup,hb,if_neg (fun e:g=f=>h (e.trans hk.symm))]
  ·rw[if_neg hk]
   by_cases h:g=k
   ·have hb:(g == k)=true:=beq_iff_eq.mpr h
    simp only[List.lookup,hb,if_neg (fun e:g=f=>hk (h.symm.trans e))]
   ·have hb:(g == k)=false:=beq_eq_false_iff_ne.mpr h
    simp only[List.lookup,hb]
    exact ih
theorem jhe(f:Str)(v:V):∀ fs:List (Str×V),f∈(putF f v fs).map (·.1)∧∀ g,g∈fs.map (·.1)→g∈(putF f v fs).map (·.1)
 | []=>⟨by simp[putF],fun g h=>by simp at h⟩
 | (k,x)::r=>by
  obtain⟨i1,i2⟩:=jhe f v r
  rw[show putF f v ((k,x)::r)=(if k=f then (k,v)::r else (k,x)::putF f v r) from rfl]
  by_cases hk:k=f
  ·rw[if_pos hk]
   subst hk
   exact⟨by simp,fun g h=>by simpa using h⟩
  ·rw[if_neg hk]
   refine⟨?_,fun g h=>?_⟩
   ·rw[List.map_cons]
    exact List.mem_cons_of_mem _ i1
   ·rw[List.map_cons] at h ⊢
    rcases List.mem_cons.mp h with e|e
    ·exact List.mem_cons.mpr (.inl e)
    ·exact List.mem_cons_of_mem _ (i2 g e)
theorem jhg(f:Str)(v:V):∀ fs:List (Str×V),(putF f v fs).length≤fs.length+1
 | []=>by simp[putF]
 | (k,x)::r=>by
  have ih:=jhg f v r
  rw[show putF f v ((k,x)::r)=(if k=f then (k,v)::r else (k,x)::putF f v r) from rfl]
  by_cases hk:k=f
  ·rw[if_pos hk,List.length_cons,List.length_cons];omega
  ·rw[if_neg hk,List.length_cons,List.length_cons];omega
theorem RelO.some_of{v:V}{o:Option Value}(r:RelO (some v) o):∃ u,o=some u∧RelV v u:=by
 cases o with
 | none=>exact (show False from r).elim
 | some u=>exact⟨u,rfl,r⟩
theorem RelO.none_of{o:Option Value}(r:RelO none o):o=none:=by
 cases o with
 | none=>rfl
 | some u=>exact (show False from r).elim
theorem jpm{v:V}{u:Value}(r:RelV v u):PySem.W.handedIn u=true:=by
 cases v with
 | non=>cases (show u=Value.none from r);rfl
 | bl b=>cases (show u=Value.bool b from r);rfl
 | int i=>obtain⟨t,e⟩:=(show ∃ t,u=Value.int i t from r);cases e;rfl
 | str x=>obtain⟨t,e⟩:=(show ∃ t,u=Value.str x t from r);cases e;rfl
 | byt b=>obtain⟨t,e⟩:=(show ∃ t,u=Value.bytes b t from r);cases e;rfl
 | flt b=>obtain⟨t,e⟩:=(show ∃ t,u=Value.float b t from r);cases e;rfl
 | ref a=>cases (show u=Value.ref a from r);rfl
 | ty n=>cases (show u=Value.type n from r);rfl
section
variable {P:Program}{w:World}{H H':Hp}{h h':Heap}{a C dx:Addr}{fs fs':List (Str×V)}
theorem jlq(hok:HOk P w H h)(e:H a=some (.ins C dx fs)):∃ mA,ObjM h a dx C mA∧(∀ f,RelO (fs.lookup f) (mA f))∧PySem.Within mA (fs.map (·.1))∧fs.length≤1000∧H dx=some (.own a):=by
 obtain⟨d,z,ne,ob,mA,n,r,q⟩:=(show ObjOk P w H h a (.ins C dx fs) from hok a _ e)
 exact⟨mA,⟨ob,n,ne⟩,r,q,z,d⟩
end
structure Cls(K:PySem.W.Frag)(C:Addr):Prop where
 pg:PySem.W.plainGet K C Str.empty=true
 hd:PySem.W.hasDictIn K C=true
 po:PySem.W.plainOver K C=true
 sa:PySem.W.findIn K (.ref C) "__setattr__"=some (some (.builtin "object.__setattr__"))
theorem Cls.get{K:PySem.W.Frag}{C:Addr}(c:Cls K C)(f:Str):PySem.W.plainGet K C f=true:=c.pg
noncomputable def NoAttr(K:PySem.W.Frag)(C:Addr)(f:Str):Prop:=PySem.W.findIn K (.ref C) f=some none
theorem NoAttr.taker{K:PySem.W.Frag}{C:Addr}{f:Str}(n:NoAttr K C f):PySem.W.takerIn K C f=some none:=by
 unfold PySem.W.takerIn
 rw[show PySem.W.findIn K (.ref C) f=some none from n]
 rfl
structure Con(K:PySem.W.Frag)(C:Addr)(f:Str)(v:V)(u:Value):Prop where
 at_:PySem.W.findIn K (.ref C) f=some (some u)
 rel:RelV v u
 get:PySem.W.specialIn K u "__get__"=some none
 cp:PySem.W.copiedNames.contains f=false
structure Meth(K:PySem.W.Frag)(C:Addr)(m:Str)(f:Addr):Prop where
 at_:PySem.W.findIn K (.ref C) m=some (some (.ref f))
 fn:PySem.W.isFn K (.ref f)=true
 kp:PySem.W.keepIn K (.ref f)=true
section
variable {X:Cx}{pins:List (Addr×Obj)}{σ:St}{H:Hp}{s:Shared}{a C dx:Addr}{fs:List (Str×V)}{f:Str}{v:V}{A:Around}{E:Value→Shared→Prop}
theorem jnu{b:Bool}{Q:Value→Shared→Prop}(I:Inv X pins σ H s)(e:H a=some (.ins C dx fs))(c:Cls X.K C)(n:NoAttr X.K C f)(l:fs.lookup f=some v)
  (h:∀ u s',Inv X pins σ H s'→RelV v u→Q u s'):wpAny (model X.prog X.w) A (getAttr (.ref a) f b) Q E s:=by
 obtain⟨mA,O,r,_,_,_⟩:=jlq I.hok e
 obtain⟨u,hu,ru⟩:=RelO.some_of (v:=v) (o:=mA f) (by rw[← l];exact r f)
 exact jvp I.kIn O (c.get f) c.hd n hu (jpm ru) (h u _ (I.tok _) ru)
theorem jig{m:Str}{g:Addr}{pl:Sem Bool}{Q:Value×List Value→Shared→Prop}(I:Inv X pins σ H s)(e:H a=some (.ins C dx fs))(c:Cls X.K C)(k:Meth X.K C m g)(l:fs.lookup m=none)
  (h:Q (.ref g,[.ref a]) s):wpAny (model X.prog X.w) A (getMethod (.ref a) m pl) Q E s:=by
 obtain⟨mA,O,r,_,_,_⟩:=jlq I.hok e
 have hn:mA m=none:=RelO.none_of (by rw[← l];exact r m)
 exact jsg I.kIn O (c.get m) k.at_ k.fn hn h
theorem jog{y:V}{u:Value}{Q:Unit→Shared→Prop}(I:Inv X pins σ H s)(e:H a=some (.ins C dx fs))(c:Cls X.K C)(n:NoAttr X.K C f)(hl:fs.length<1000)(ry:RelV y u)
  (h:∀ s',Inv X pins σ (upd H a (.ins C dx (putF f y fs))) s'→Q () s'):wpAny (model X.prog X.w) A (setAttr (.ref a) f u) Q E s:=by
 obtain⟨mA,O,r,wi,_,ho⟩:=jlq I.hok e
 have hz:(fs.map (·.1)).length≤sizeLine:=by rw[List.length_map,sizeLine_eq];omega
 refine jxb I.kIn O c.sa c.po n.taker c.hd wi hz fun h' O' sb=>h _ ?_
 have hd:∃ o,h'.get? dx=some o:=let ⟨o,_,_,e',_⟩:=O'.ns;⟨o,e'⟩
 refine I.write (x:=a) (e:=dx) (by rw[e];exact True.intro) (.inr ho) (fun b q hb z=>(sb.2 b hb).trans z) hd ?_
 refine⟨by rw[jaj O.ne];exact ho,?_,O.ne,O'.obj,_,O'.ns,fun g=>?_,fun g hg=>?_⟩
 ·have:=jhg f y fs;omega
 ·show RelO ((putF f y fs).lookup g) (if g=f then some u else mA g)
  rw[jhk]
  by_cases q:g=f
  ·rw[if_pos q,if_pos q];exact ry
  ·rw[if_neg q,if_neg q];exact r g
 ·by_cases q:g=f
  ·rw[q];exact (jhe f y fs).1
  ·refine (jhe f y fs).2 g (wi g fun z=>hg ?_)
   show (if g=f then some u else mA g)=none
   rw[if_neg q];exact z
theorem Inv.made(I:Inv X pins σ H s):Inv X pins σ (upd (upd H s.heap.objs.size (.own (s.heap.objs.size+1))) (s.heap.objs.size+1) (.ins C s.heap.objs.size []))
  { s with heap:=(s.heap.push PySem.W.emptyDict).push (PySem.W.instObj C s.heap.objs.size) }:=by
 have e1:(s.heap.push PySem.W.emptyDict).get? s.heap.objs.size=some PySem.W.emptyDict:=Heap.get?_push_size s.heap rfl
 have e2:((s.heap.push PySem.W.emptyDict).push (PySem.W.instObj C s.heap.objs.size)).get? (s.heap.objs.size+1)=some (PySem.W.instObj C s.heap.objs.size):=by
  have:=Heap.get?_push_size (s.heap.push PySem.W.emptyDict) (o:=PySem.W.instObj C s.heap.objs.size) rfl
  rwa [Heap.size_push] at this
 have e3:(s.heap.push PySem.W.emptyDict).Ns s.heap.objs.size (fun _=>none):=⟨PySem.W.emptyDict,#[],_,e1,rfl,(fun e he=>absurd he (by simp)),fun _=>rfl⟩
 have I1:=I.laid (a:=s.heap.objs.size) (o:=.own (s.heap.objs.size+1)) (h':=s.heap.push PySem.W.emptyDict) (t':=s.toks) (fun b u q=>Heap.get?_push_of_some _ q) (Nat.le_refl _) ⟨_,e1⟩
 refine I1.laid (a:=s.heap.objs.size+1) (o:=.ins C s.heap.objs.size []) (t':=s.toks) (fun b u q=>Heap.get?_push_of_some _ q) (Nat.le_of_eq (Heap.size_push _ _)) ?_
 have ne:s.heap.objs.size≠s.heap.objs.size+1:=Nat.ne_of_lt (Nat.lt_succ_self _)
 refine⟨by rw[jaj ne,jag],Nat.zero_le _,ne,e2,fun _=>none,(Heap.Ns1.of_empty e3).at fun o q=>Heap.get?_push_of_some _ q,fun _=>True.intro,fun y hy=>absurd rfl hy⟩
theorem ju5{prog:Program}{w:World}{env:Env}{e:Expr}{f:Str}{pos:Pos}{s:Shared}{Q:Value→Shared→Prop}(hb:attributeBase e f env (eval e env)=eval e env)
  (h:wpAny (model prog w) A (eval e env) (fun o s₁=>wpAny (model prog w) A (getAttr o f true) Q E s₁) E s):wpAny (model prog w) A (eval (.Attribute e f pos) env) Q E s :=
 Attribute_any_ h (by rw[arm_eval_Attribute,hb])
end
inductive FldP(K:PySem.W.Frag)(f:Str)(Q:VK)(x:V)(H1:Hp):Prop
 | mk (a C dx:Addr) (fs:List (Str×V)) (v:V) (h1:x=.ref a) (h2:H1 a=some (.ins C dx fs)) (h3:Cls K C) (h4:NoAttr K C f) (h5:fs.lookup f=some v) (h6:Q v H1)
noncomputable def tFld(K:PySem.W.Frag)(ta:TE)(f:Str):TE:=fun σ H Q=>ta σ H (FldP K f Q)
noncomputable def sFld(K:PySem.W.Frag)(ta tv:TE)(f:Str):TS:=fun D σ H=>tv σ H fun y H1=>ta σ H1 fun x H2=>∃ a C dx fs,x=.ref a∧H2 a=some (.ins C dx fs)∧Cls K C∧NoAttr K C f∧fs.length<1000 ∧
 D.nx σ (upd H2 a (.ins C dx (putF f y fs)))
section
variable {X:Cx}{o e value:Expr}{f:Str}{pos pos' tpos:Pos}{ta tv:TE}
theorem jzt(he:PE X e ta)(hb:attributeBase e f X.env (eval e X.env)=eval e X.env):PE X (.Attribute e f pos) (tFld X.K ta f):=by
 intro pins s σ H Q I h
 refine ju5 hb (thn (he pins s σ H _ I h) fun u s1 hzz=>?_)
 obtain⟨x,H1,I1,rx,a,C,dx,fs,v,ex,ea,c,n,l,q⟩:=hzz
 subst ex
 obtain rfl:u=Value.ref a:=rx
 exact jnu I1 ea c n l fun u' s2 I2 ru=>⟨v,H1,I2,ru,q⟩
theorem jz0(ha:PE X o ta)(hv:PE X value tv)(hs:swapsWith value (some (.Attribute o f pos')) pos.line X.env=pure false):PS X (.Assign [.Attribute o f pos'] value pos) (sFld X.K ta tv f):=by
 intro pins s σ H D I h
 refine plainObj_wpAny_Assign_Attribute (thn (hv pins s σ H _ I h) fun u s1 ⟨y,H1,I1,ry,q⟩=>thn (ha pins s1 σ H1 _ I1 q) fun ov s2 hzz=>?_) hs
 obtain⟨x,H2,I2,rx,a,C,dx,fs,ex,ea,c,n,l,q2⟩:=hzz
 subst ex
 obtain rfl:ov=Value.ref a:=rx
 exact jog I2 ea c n l ry fun s3 I3=>⟨σ,_,I3,q2⟩
end
section
variable {X:Cx}{pins:List (Addr×Obj)}{σ:St}{H:Hp}{s:Shared}{A:Around}{E:Value→Shared→Prop}{Q:Value→Shared→Prop}{c:Value}{b:Bool}
inductive TyOf(K:PySem.W.Frag)(H:Hp):V→Value→Prop where
 | non:TyOf K H .non (.type "NoneType")
 | bl (x:Bool):TyOf K H (.bl x) (.type "bool")
 | int (i:Int):TyOf K H (.int i) (.type "int")
 | str (x:Str):TyOf K H (.str x) (.type "str")
 | flt (x:UInt64):TyOf K H (.flt x) (.type "float")
 | lst {a:Addr} {xs:List V} (e:H a=some (.lst xs)):TyOf K H (.ref a) (.type "list")
 | frz {a:Addr} {o:Obj} {xs:List V} (e:H a=some (.frz o (.lst xs))):TyOf K H (.ref a) (.type "list")
 | tup {a:Addr} {xs:List V} (e:H a=some (.tup xs)):TyOf K H (.ref a) (.type "tuple")
 | dK {a:Addr} {kvs:List (Key×V)} (e:H a=some (.dK kvs)):TyOf K H (.ref a) (.type "dict")
 | dT {a:Addr} {kvs:List (List Key×V)} (e:H a=some (.dT kvs)):TyOf K H (.ref a) (.type "dict")
 | ins {a C dx:Addr} {fs:List (Str×V)} (e:H a=some (.ins C dx fs)) (cl:Cls K C) (ha:PySem.W.findIn K (.ref C) "__class__"=some (some (.builtin "object.__class__")))
   (hn:PySem.W.specialIn K (.builtin "object.__class__") "__get__"=some (some (.builtin "getset_descriptor.__get__"))) (htk:PySem.W.takesIn K (.builtin "object.__class__")=some true)
   (hm:PySem.W.mroIn K C (.type "object")=some true):TyOf K H (.ref a) (.ref C)
end
structure Room(k:Nat)(A:Around):Prop where
 hd:A.handled=none
 dp:A.depth+3*k+5<recursionLimit
 un:A.units+16*k+200<cLine
theorem Room.mono{j k:Nat}{A:Around}(r:Room k A)(h:j≤k):Room j A:=⟨r.hd,by have:=r.dp;omega,by have:=r.un;omega⟩
theorem Room.deeper{k:Nat}{A:Around}(r:Room (k+1) A)(env:Env):Room k (A.deeper env) :=
 ⟨r.hd,by have:=r.dp;show A.depth+1+3*k+5<_;omega,by have:=r.un;show A.units+3+16*k+200<_;omega⟩
theorem jn0{A:Around}{C:Addr}{us:List Value}{kw:List (Str×Value)}:(A.under (.builtin "type.__call__" ⟨.ref C::us,kw⟩)).depth=A.depth+1:=by
 first|rfl|simp[Around.under,Code.weight,Code.isCreation,Code.isGuard,Code.isCaller,Code.frames,Code.isFrame,guardIds]
theorem jn1{A:Around}{C:Addr}{us:List Value}{kw:List (Str×Value)}:(A.under (.builtin "type.__call__" ⟨.ref C::us,kw⟩)).units=A.units+1:=by
 first|rfl|simp[Around.under,Code.cUnits,Code.frames,Code.isFrame]
theorem Room.make{k:Nat}{A:Around}(r:Room (k+1) A)(C:Addr)(us:List Value)(kw:List (Str×Value)):Room k (A.under (.builtin "type.__call__" ⟨.ref C::us,kw⟩)) :=
 ⟨r.hd,by have:=r.dp;rw[jn0];omega,by have:=r.un;rw[jn1];omega⟩
theorem Room.depth{k:Nat}{A:Around}(r:Room k A):A.depth<recursionLimit:=by have:=r.dp;omega
theorem Room.units{k:Nat}{A:Around}(r:Room k A):A.units+64<cLine:=by have:=r.un;omega
noncomputable def tNil:TA:=fun _ H Q=>Q [] H
noncomputable def jCn(ta:TE)(tr:TA):TA:=fun σ H Q=>ta σ H fun x H1=>tr σ H1 fun xs H2=>Q (x::xs) H2
section
variable {X:Cx}{e:Expr}{es:List Expr}{te:TE}{t:TA}{pos:Pos}
theorem jm7:PA X [] tNil:=fun _ _ _ _ H Q I h=>Calls.spliced_nil ⟨[],H,I,.nil,h⟩
theorem jhs(ha:PE X e te)(hr:PA X es t)(hs:autoParam (starEach (e::es) X.env=(false,eval e X.env)::starEach es X.env) zau2._auto_1):PA X (e::es) (jCn te t):=by
 intro pos pins s σ H Q I h
 rw[hs]
 show wpAny _ _ (spliced ((false,eval e X.env)::backTo pos (starEach es X.env))) _ _ s
 refine Calls.spliced_cons (thn (ha pins s σ H _ I h) fun u s1 hzz=>?_)
 obtain⟨x,H1,I1,r1,q1⟩:=hzz
 exact thn (hr pos pins s1 σ H1 _ I1 q1) fun us s2 ⟨xs,H2,I2,r2,q2⟩=>⟨x::xs,H2,I2,.cons r1 r2,q2⟩
noncomputable def tTup(t:TA):TE:=fun σ H Q=>t σ H fun xs H1=>xs.length≤sizeLine∧∀ p,H1 p=none→Q (.ref p) (upd H1 p (.tup xs))
noncomputable def tLst(t:TA):TE:=fun σ H Q=>t σ H fun xs H1=>xs.length≤sizeLine∧∀ p,H1 p=none→Q (.ref p) (upd H1 p (.lst xs))
theorem jkv{x1}(h:PA X es t):PE X (.Tuple es x1 pos) (tTup t):=by
 intro pins s σ H Q I hq
 refine wpAny_Tuple_spliced (thn (h pos pins s σ H _ I hq) fun us s1 ⟨xs,H1,I1,r,z,q⟩=>⟨by rw[← r.length];exact z,?_⟩)
 have hf:H1 s1.heap.objs.size=none:=I1.hok.fresh (Nat.le_refl _)
 refine⟨.ref s1.heap.objs.size,upd H1 s1.heap.objs.size (.tup xs),I1.laid (t':=s1.toks) (fun b u e=>Heap.get?_push_of_some _ e) (Nat.le_refl _) ?_,rfl,q _ hf⟩
 exact⟨z,us,r,⟨_,Heap.get?_push_size _ rfl,rfl,_,rfl⟩⟩
theorem jku(h:PA X es t):PE X (.List es pos) (tLst t):=by
 intro pins s σ H Q I hq
 refine wpAny_List_spliced (thn (h pos pins s σ H _ I hq) fun us s1 ⟨xs,H1,I1,r,z,q⟩=>⟨by rw[← r.length];exact z,?_⟩)
 have hf:H1 s1.heap.objs.size=none:=I1.hok.fresh (Nat.le_refl _)
 refine⟨.ref s1.heap.objs.size,upd H1 s1.heap.objs.size (.lst xs),I1.laid (t':=s1.toks) (fun b u e=>Heap.get?_push_of_some _ e) (Nat.le_refl _) ?_,rfl,q _ hf⟩
 exact⟨z,us,0,r,Heap.get?_push_size _ rfl⟩
end
noncomputable abbrev Sp:=List V→Hp→VK→XK→Prop
noncomputable abbrev CXT:=List Env→Hp→Shared→XK→Value→Shared→Prop
structure Env0(P:Program)(w:World)(K:PySem.W.Frag)(mg:Str→Option Value)(base:Heap)(A:Around)(outer:List Env)(s:Shared)(H:Hp):Prop where
 frames:A.frames=some outer
 mod:Mod K mg base
 bs:∀ b o,base.get? b=some o→s.heap.get? b=some o∧H b=none
 bsz:base.objs.size≤s.heap.objs.size
 funs:s.heap.FunFrames base outer
 frf:∀ b∈frs outer,H b=none
 hok:HOk P w H s.heap
 bare:AllBare s.gens
noncomputable def CE(outer:List Env)(P:Program)(w:World)(H:Hp)(s:Shared)(Q:VK)(u:Value)(s':Shared):Prop :=
 ∃ v H',s'.os=s.os∧AllBare s'.gens∧Un (frs outer) [] H H' s.heap s'.heap∧HOk P w H' s'.heap∧RelV v u∧Q v H'
noncomputable def CR(CX:CXT)(outer:List Env)(P:Program)(w:World)(H:Hp)(s:Shared)(Q:VK)(E:XK)(r:Result)(s':Shared):Prop :=
 match r with
 | .ok (.ret u)=>CE outer P w H s Q u s'
 | .ok _=>False
 | .error e=>CX outer H s E e s'
structure FnOk(P:Program)(w:World)(K:PySem.W.Frag)(mg:Str→Option Value)(base:Heap)(CX:CXT)(k:Nat)(f:Addr)(fd:FuncData)(ps:List Str)(sp:Sp):Prop where
 len:∀ vs H Q E,sp vs H Q E→vs.length=ps.length
 run:∀ (A:Around) (outer:List Env) (s:Shared) (H:Hp) (args:Args) (us:List Value) (vs:List V) (Q:VK) (E:XK),Room k A→Env0 P w K mg base A outer s H→BindsTo s fd args (ps.zip us)→Vals vs us→sp vs H Q E →
  codeAny (model P w) A (.call (.ref f) args) (CR CX outer P w H s Q E) s
theorem FnOk.imp{P:Program}{w:World}{K:PySem.W.Frag}{mg:Str→Option Value}{base:Heap}{CX:CXT}{k:Nat}{f:Addr}{fd:FuncData}{ps:List Str}{sp sp':Sp}(F:FnOk P w K mg base CX k f fd ps sp)
  (h:∀ vs H Q E,sp' vs H Q E→sp vs H Q E):FnOk P w K mg base CX k f fd ps sp' :=
 ⟨fun vs H Q E q=>F.len vs H Q E (h _ _ _ _ q),fun A outer s H args us vs Q E hr he hb hv hs=>F.run A outer s H args us vs Q E hr he hb hv (h _ _ _ _ hs)⟩
theorem Env0.make{P:Program}{w:World}{K:PySem.W.Frag}{mg:Str→Option Value}{base:Heap}{A:Around}{outer:List Env}{s:Shared}{H:Hp}(e:Env0 P w K mg base A outer s H)(C:Addr)(us:List Value)(kw:List (Str×Value)) :
  Env0 P w K mg base (A.under (.builtin "type.__call__" ⟨.ref C::us,kw⟩)) outer s H:=⟨by first|exact e.frames|(simpa[Around.under,Code.envs,Code.isFrame,pushEnvs] using e.frames),e.mod,e.bs,e.bsz,e.funs,e.frf,e.hok,e.bare⟩
section
variable {X:Cx}{pins:List (Addr×Obj)}{σ:St}{H:Hp}{s s':Shared}
theorem Inv.env0(I:Inv X pins σ H s):Env0 X.prog X.w X.K X.mg X.base X.A X.stack s H :=
 ⟨I.ok.frames,I.ok.mod,I.bs,Nat.le_trans I.ok.bsz I.sz,I.stack,I.stkFree,I.hok,I.bare⟩
theorem Inv.after{Q:VK}{u:Value}(I:Inv X pins σ H s)(h:CE X.stack X.prog X.w H s Q u s'):EP X pins σ Q u s':=by
 obtain⟨v,H',os,bare,un,hok,r,q⟩:=h
 obtain⟨hh,g,d,t,os'⟩:=s'
 obtain rfl:os'=s.os:=os
 exact⟨v,H',I.call (h':=hh) (g':=g) (d':=d) (t':=t) (ch:=[]) un hok bare (fun b z=>absurd z (by simp)),r,q⟩
end
noncomputable def jCm(sp:Sp)(dvs:List V)(E:XK)(t:TA):TE:=fun σ H Q=>t σ H fun vs H1=>sp (vs++dvs) H1 Q E
noncomputable def jAs(C:Addr)(m:Str)(sp:Sp)(dvs:List V)(E:XK)(ta:TE)(t:TA):TE:=fun σ H Q=>ta σ H fun x H1=>∃ a dx fs,x=.ref a∧H1 a=some (.ins C dx fs)∧fs.lookup m=none ∧
 t σ H1 fun vs H2=>sp (x::(vs++dvs)) H2 Q E
noncomputable def jCq(C:Addr)(sp:Sp)(dvs:List V)(E:XK)(t:TA):TE:=fun σ H Q=>t σ H fun vs H1=>∀ x dx,H1 x=none→H1 dx=none→dx≠x →
 sp (.ref x::(vs++dvs)) (upd (upd H1 dx (.own x)) x (.ins C dx [])) (fun v H2=>v=.non∧Q (.ref x) H2) E
noncomputable def Binds(K:PySem.W.Frag)(fd:FuncData)(ps:List Str)(ds:List Value):Prop :=
 ∀ (s:Shared) (us:List Value),K.In s.heap→(us++ds).length=ps.length→BindsTo s fd ⟨us,[]⟩ (ps.zip (us++ds))
theorem Binds.all{K:PySem.W.Frag}{fd:FuncData}{ps:List Str}(h:∀ us:List Value,us.length=ps.length→bindArgs fd ⟨us,[]⟩=pure (ps.zip us)):Binds K fd ps []:=fun s us _ hl=>by
 rw[List.append_nil] at hl ⊢
 exact .of_eq (h us hl)
noncomputable def jia(CX:CXT)(X:Cx)(E:XK):Prop:=∀ (pins:List (Addr×Obj)) (σ:St) (H:Hp) (s:Shared) (e:Value) (s':Shared),Inv X pins σ H s→CX X.stack H s E e s'→X.xe e s'
section
variable {X:Cx}{CX:CXT}{k:Nat}{f C:Addr}{fd:FuncData}{ps:List Str}{sp:Sp}{dvs:List V}{ds:List Value}{E:XK}{x m:Str}{p pos apos:Pos}{e o:Expr}{es:List Expr}{ta:TE}{t:TA}
theorem jrb{pins:List (Addr×Obj)}{σ:St}{H:Hp}{s:Shared}{Q:VK}{us:List Value}{vs:List V}(F:FnOk X.prog X.w X.K X.mg X.base CX k f fd ps sp)(hr:Room k X.A)(hb:Binds X.K fd ps ds)(hd:Vals dvs ds)(hx:jia CX X E)
  (I:Inv X pins σ H s) (r:Vals vs us) (h:sp (vs++dvs) H Q E):wpAny (model X.prog X.w) X.A (call (.ref f) us) (EP X pins σ Q) X.xe s:=by
 have r2:Vals (vs++dvs) (us++ds):=r.append hd
 have hl:(us++ds).length=ps.length:=by rw[← r2.length];exact F.len _ _ _ _ h
 refine wpAny_call (codeAny_mono (F.run X.A X.stack s H ⟨us,[]⟩ (us++ds) (vs++dvs) Q E hr I.env0 (hb s us I.kIn hl) r2 h) fun r s' hq=>?_)
 cases r with
 | error e=>exact hx pins σ H s e s' I hq
 | ok fl =>
  cases fl with
  | ret u=>exact I.after hq
  | next=>exact False.elim hq
  | brk=>exact False.elim hq
  | cont=>exact False.elim hq
theorem jqv(F:FnOk X.prog X.w X.K X.mg X.base CX k f fd ps sp)(hr:Room k X.A)(hg:Gl X x)(hm:X.mg x=some (.ref f))(hk:PySem.W.keepIn X.K (.ref f)=true)(hb:Binds X.K fd ps ds)(hd:Vals dvs ds)(hx:jia CX X E)
  (ha:PA X (e::es) t) (hdb:autoParam ((x == ("__debug__":Str))=false) zau1._auto_1) (he:autoParam (starEach (e::es) X.env=(false,eval e X.env)::starEach es X.env) zau2._auto_1) (hpl:autoParam ((backTo pos (starEach es X.env)).any (·.1)=false) zau2._auto_1) :
  PE X (.Call (.Name x p) (e::es) [] pos) (jCm sp dvs E t):=by
 intro pins s σ H Q I h
 refine wpAny_Call_Name_kw (jpx I hg hm ?_ hdb)
 refine PySem.W.callWith_K (h₀:=X.base) I.ok.mod.kin hk (thn (ha pos pins s σ H _ I h) fun us s1 ⟨vs,H1,I1,r,q⟩=>⟨I1.kIn,?_⟩) he hpl
 exact jrb F hr hb hd hx I1 r q
theorem jwp{pl:Sem Bool}(he:PE X o ta)(c:Cls X.K C)(hm:Meth X.K C m f)(F:FnOk X.prog X.w X.K X.mg X.base CX k f fd ps sp)(hr:Room k X.A)(hb:Binds X.K fd ps ds)(hd:Vals dvs ds)(hx:jia CX X E)(ha:PA X (e::es) t)
  (hst:autoParam (starEach (e::es) X.env=(false,eval e X.env)::starEach es X.env) zau2._auto_1) (hpl:autoParam ((backTo pos (starEach es X.env)).any (·.1)=false) zau2._auto_1)
  (ht:eval (.Call (.Attribute o m apos) (e::es) [] pos) X.env=(do
   let ov ← eval o X.env
   standAt apos.atName
   let (f,first) ← holding [ov] (getMethod ov m pl)
   callWith pos f first (backTo pos (starEach (e::es) X.env)) (backToKw pos (keywordEach [] X.env))):=by rfl) :
  PE X (.Call (.Attribute o m apos) (e::es) [] pos) (jAs C m sp dvs E ta t):=by
 intro pins s σ H Q I h
 refine PySem.W.methodCall_KW (pl:=pl) (thn (he pins s σ H _ I h) fun u s1 hzz=>?_) ht
 obtain⟨x,H1,I1,rx,a,dx,fs,ex,ea,l,q⟩:=hzz
 subst ex
 obtain rfl:u=Value.ref a:=rx
 refine jig I1 ea c hm l ?_
 refine PySem.W.callWith_K (first:=[.ref a]) (h₀:=X.base) I.ok.mod.kin hm.kp (thn (ha pos pins s1 σ H1 _ I1 q) fun us s2 ⟨vs,H2,I2,r,q2⟩=>⟨I2.kIn,?_⟩) hst hpl
 exact jrb (us:=.ref a::us) (vs:=.ref a::vs) F hr hb hd hx I2 (.cons rfl r) q2
theorem jtg{pl:Sem Bool}(he:PE X o ta)(c:Cls X.K C)(hm:Meth X.K C m f)(F:FnOk X.prog X.w X.K X.mg X.base CX k f fd ps sp)(hr:Room k X.A)(hb:Binds X.K fd ps ds)(hd:Vals dvs ds)(hx:jia CX X E)
  (ht:eval (.Call (.Attribute o m apos) [] [] pos) X.env=(do
   let ov ← eval o X.env
   standAt apos.atName
   let (f,first) ← holding [ov] (getMethod ov m pl)
   callWith pos f first (backTo pos (starEach [] X.env)) (backToKw pos (keywordEach [] X.env))):=by rfl) :
  PE X (.Call (.Attribute o m apos) [] [] pos) (jAs C m sp dvs E ta tNil):=by
 intro pins s σ H Q I h
 refine PySem.W.methodCall_KW (pl:=pl) (thn (he pins s σ H _ I h) fun u s1 hzz=>?_) ht
 obtain⟨x,H1,I1,rx,a,dx,fs,ex,ea,l,q⟩:=hzz
 subst ex
 obtain rfl:u=Value.ref a:=rx
 refine jig I1 ea c hm l ?_
 exact PySem.W.callWith_K0 (first:=[.ref a]) I1.kIn hm.kp (jrb (us:=[.ref a]) (vs:=[.ref a]) F hr hb hd hx I1 (.cons rfl .nil) q)
structure Mk(K:PySem.W.Frag)(C f:Addr):Prop where
 makes:PySem.W.makesIn K C=true
 init:PySem.W.findIn K (.ref C) "__init__"=some (some (.ref f))
 fn:PySem.W.isFn K (.ref f)=true
 kp:PySem.W.keepIn K (.ref C)=true
theorem jtp{pins:List (Addr×Obj)}{σ:St}{H:Hp}{s:Shared}{Q:VK}{us:List Value}{vs:List V}(M:Mk X.K C f)(F:FnOk X.prog X.w X.K X.mg X.base CX k f fd ps sp)(hr:Room (k+1) X.A)(hb:Binds X.K fd ps ds)(hd:Vals dvs ds)
  (hx:jia CX X E) (I:Inv X pins σ H s) (r:Vals vs us)
  (h:∀ x dx,H x=none→H dx=none→dx≠x→sp (.ref x::(vs++dvs)) (upd (upd H dx (.own x)) x (.ins C dx [])) (fun v H2=>v=.non∧Q (.ref x) H2) E) :
  wpAny (model X.prog X.w) X.A (call (.ref C) us) (EP X pins σ Q) X.xe s:=by
 have hq:=h (s.heap.objs.size+1) s.heap.objs.size (I.hok.fresh (Nat.le_succ _)) (I.hok.fresh (Nat.le_refl _)) (Nat.ne_of_lt (Nat.lt_succ_self _))
 have I2:=Inv.made (C:=C) I
 have r2:Vals (V.ref (s.heap.objs.size+1)::(vs++dvs)) (Value.ref (s.heap.objs.size+1)::(us++ds)):=.cons rfl (r.append hd)
 have hl:(Value.ref (s.heap.objs.size+1)::us++ds).length=ps.length:=by
  have e:=r2.length
  rw[F.len _ _ _ _ hq] at e
  exact e.symm
 refine wpAny_call (jss (f:=f) I.kIn M.makes M.init (beq_iff_eq.mp M.fn) (codeAny_mono (F.run _ X.stack _ _ ⟨Value.ref (s.heap.objs.size+1)::us,[]⟩ (Value.ref (s.heap.objs.size+1)::(us++ds)) _ _ E (hr.make C us [])
  (I2.env0.make C us []) (hb _ (Value.ref (s.heap.objs.size+1)::us) I2.kIn hl) r2 hq) fun r s' hq'=>?_))
 cases r with
 | error e=>exact hx pins σ _ _ e s' I2 hq'
 | ok fl =>
  cases fl with
  | ret u =>
   obtain⟨v,H',I3,rv,ev,q3⟩:=I2.after hq'
   subst ev
   exact⟨rv,⟨V.ref (s.heap.objs.size+1),H',I3,rfl,q3⟩⟩
  | next=>exact False.elim hq'
  | brk=>exact False.elim hq'
  | cont=>exact False.elim hq'
theorem jwo(M:Mk X.K C f)(F:FnOk X.prog X.w X.K X.mg X.base CX k f fd ps sp)(hr:Room (k+1) X.A)(hg:Gl X x)(hm:X.mg x=some (.ref C))(hb:Binds X.K fd ps ds)(hd:Vals dvs ds)(hx:jia CX X E)
  (ha:PA X (e::es) t) (hdb:autoParam ((x == ("__debug__":Str))=false) zau1._auto_1) (he:autoParam (starEach (e::es) X.env=(false,eval e X.env)::starEach es X.env) zau2._auto_1) (hpl:autoParam ((backTo pos (starEach es X.env)).any (·.1)=false) zau2._auto_1) :
  PE X (.Call (.Name x p) (e::es) [] pos) (jCq C sp dvs E t):=by
 intro pins s σ H Q I h
 refine wpAny_Call_Name_kw (jpx I hg hm ?_ hdb)
 refine PySem.W.callWith_K (h₀:=X.base) I.ok.mod.kin M.kp (thn (ha pos pins s σ H _ I h) fun us s1 ⟨vs,H1,I1,r,q⟩=>⟨I1.kIn,?_⟩) he hpl
 exact jtp M F hr hb hd hx I1 r q
end
section
variable {X:Cx}{CX:CXT}{k:Nat}{f C:Addr}{fd:FuncData}{ps ks:List Str}{sp:Sp}{E:XK}{x m:Str}{p pos apos kpos:Pos}{e o:Expr}{es:List Expr}{kws:List Keyword}{te ta:TE}{t tk:TA}{nm:Option Str}
structure KBinds(K:PySem.W.Frag)(fd:FuncData)(ps ks:List Str)(g:List Value→List Value→List Value)(gV:List V→List V→List V):Prop where
 to:∀ (s:Shared) (us ws:List Value),K.In s.heap→(g us ws).length=ps.length→BindsTo s fd ⟨us,ks.zip ws⟩ (ps.zip (g us ws))
 rel:∀ {vs:List V} {us:List Value} {zs:List V} {ws:List Value},Vals vs us→Vals zs ws→Vals (gV vs zs) (g us ws)
variable {g:List Value→List Value→List Value}{gV:List V→List V→List V}
end
structure FnScope(N P:List Str)(sc:Scope):Prop where
 kind:sc.kind=.function
 co:sc.isCoroutine=false
 gen:sc.isGenerator=false
 nd:N.Nodup
 pre:N.take P.length=P
 par:∀ x∈P,sc.names.lookup x=some .local∨sc.names.lookup x=some .cell
 nofree:∀ y∈sc.names,y.2≠.free
theorem jjz{kindOf:Str→Option NameKind}{x:Str}:∀ {binds:List (Str×Value)} {m:Str→Option Value},(∀ v,(x,v)∉binds)→bindL kindOf binds m x=m x
 | [],_,_=>rfl
 | (n,v)::r,m,h=>by
  unfold bindL
  rw[jjz fun w hw=>h w (List.mem_cons_of_mem _ hw)]
  split
  ·have:x≠n:=by rintro rfl;exact h v List.mem_cons_self
   simp[this]
  ·rfl
theorem jjx{kindOf:Str→Option NameKind}{x:Str}:∀ {binds:List (Str×Value)} {m:Str→Option Value},(∀ v,(x,v)∉binds)→bindC kindOf binds m x=m x
 | [],_,_=>rfl
 | (n,v)::r,m,h=>by
  unfold bindC
  rw[jjx fun w hw=>h w (List.mem_cons_of_mem _ hw)]
  split
  ·rfl
  ·have:x≠n:=by rintro rfl;exact h v List.mem_cons_self
   simp[this]
theorem jjy{kindOf:Str→Option NameKind}{x:Str}{v:Value}:∀ {P:List Str} {vs:List Value} {i:Nat} {m:Str→Option Value},P.Nodup→P[i]? = some x→vs[i]? = some v→kindOf x=some .local →
  bindL kindOf (P.zip vs) m x=some v
 | [],_,_,_,_,h,_,_=>by simp at h
 | _::_,[],_,_,_,_,h,_=>by simp at h
 | p::P,w::vs,0,m,nd,h1,h2,hk=>by
  simp at h1 h2;subst h1;subst h2
  show bindL kindOf ((p,w)::P.zip vs) m p=_
  unfold bindL
  rw[jjz fun v hv=>(List.nodup_cons.mp nd).1 (List.of_mem_zip hv).1,if_pos hk]
  simp
 | p::P,w::vs,i+1,m,nd,h1,h2,hk=>by
  show bindL kindOf ((p,w)::P.zip vs) m x=_
  unfold bindL
  exact jjy (i:=i) (List.nodup_cons.mp nd).2 (by simpa using h1) (by simpa using h2) hk
theorem jjw{kindOf:Str→Option NameKind}{x:Str}{v:Value}:∀ {P:List Str} {vs:List Value} {i:Nat} {m:Str→Option Value},P.Nodup→P[i]? = some x→vs[i]? = some v→kindOf x≠some .local →
  bindC kindOf (P.zip vs) m x=some v
 | [],_,_,_,_,h,_,_=>by simp at h
 | _::_,[],_,_,_,_,h,_=>by simp at h
 | p::P,w::vs,0,m,nd,h1,h2,hk=>by
  simp at h1 h2;subst h1;subst h2
  show bindC kindOf ((p,w)::P.zip vs) m p=_
  unfold bindC
  rw[jjx fun v hv=>(List.nodup_cons.mp nd).1 (List.of_mem_zip hv).1,if_neg hk]
  simp
 | p::P,w::vs,i+1,m,nd,h1,h2,hk=>by
  show bindC kindOf ((p,w)::P.zip vs) m x=_
  unfold bindC
  exact jjw (i:=i) (List.nodup_cons.mp nd).2 (by simpa using h1) (by simpa using h2) hk
noncomputable def start(N:List Str)(vs:List V):St:=vs.map some++List.replicate (N.length-vs.length) none
noncomputable def cxOf(CX:CXT)(P:Program)(w:World)(K:PySem.W.Frag)(mg:Str→Option Value)(base:Heap)(N:List Str)(qual:Str)(scope:Scope)(f:Addr)(cd:Value)(A:Around)(outer:List Env)(s:Shared)(H:Hp)(E:XK):Cx where
 prog:=P
 w:=w
 K:=K
 mg:=mg
 base:=base
 A:=A.deeper (envOfC qual scope s.heap.objs.size f cd)
 N:=N
 s₀:=s
 H₀:=H
 env:=envOfC qual scope s.heap.objs.size f cd
 outer:=outer
 stack:=envOfC qual scope s.heap.objs.size f cd::outer
 ex:=[]
 calm:=true
 fn:=fun _=>true
 pn:=[]
 xe:=fun e s'=>wpAny (model P w) (A.deeper (envOfC qual scope s.heap.objs.size f cd)) (leaving (envOfC qual scope s.heap.objs.size f cd) e) (fun _ s''=>CX outer H s E e s'') (fun e' s''=>CX outer H s E e' s'') s'
theorem jmm{sc:Scope}{n:Nat}{x:Str}(h:sc.names.lookup x=some .cell):∃ c,(cellsFrom n sc.names []).lookup x=some c:=by
 have q:=PySem.W.cellsFrom_some sc.names n [] (.inl h)
 exact Option.isSome_iff_exists.mp q
theorem jpq{CX:CXT}{P:Program}{w:World}{K:PySem.W.Frag}{mg:Str→Option Value}{base:Heap}{N ps:List Str}{qual:Str}{scope:Scope}{f:Addr}{cd:Value}{A:Around}{outer:List Env}{s s1:Shared}{H:Hp}{E:XK}{us:List Value}{vs:List V}
  (S:FnScope N ps scope) (hd:A.handled=none) (e0:Env0 P w K mg base A outer s H) (hl:vs.length=ps.length) (r:Vals vs us)
  (x:InCallC s s.heap.objs.size (bindL (envOfC qual scope s.heap.objs.size f cd).kindOf (ps.zip us) fun _=>none) (cellsFrom (s.heap.objs.size+1) scope.names []) (bindC (envOfC qual scope s.heap.objs.size f cd).kindOf (ps.zip us) fun _=>none) s1) :
  Inv (cxOf CX P w K mg base N qual scope f cd A outer s H E) [] (start N vs) H s1:=by
 have hpl:ps.length≤N.length:=by have:=congrArg List.length S.pre;rw[List.length_take] at this;omega
 obtain⟨h1,tk,rfl,hk⟩:=x.done
 have noA:∀ b:Addr,b∉(cxOf CX P w K mg base N qual scope f cd A outer s H E).ex:=fun b z=>absurd (show b∈([]:List Addr) from z) (by simp)
 refine⟨⟨e0.mod,S.kind,rfl,rfl,Nat.le_refl _,fun y z c h1 h2=>?_,fun y hy=>?_,fun y c _ h=>?_,fun _=>hd,Around.frames_deeper e0.frames,.inr ⟨rfl,rfl⟩,fun b z=>absurd z (noA b),e0.bs,e0.bsz,fun b _ _=>noA b,fun b z=>absurd z (noA b),e0.funs,e0.frf⟩,
  rfl,e0.bare,Un.kept hk,⟨_,x.toInCall.ns,fun i y v h1 h2 h3=>?_⟩,fun y c h=>⟨_,x.cell y c h⟩,e0.hok.fresh (Nat.le_refl _),fun y c h=>?_,fun p hp=>absurd (show p∈([]:List (Addr×Obj)) from hp) (by simp),e0.hok.kept hk,?_⟩
 ·exact name_of_addr x.apart (PySem.mem_of_lookup h1) (PySem.mem_of_lookup h2)
 ·have hy:scope.names.lookup y=some .cell∨scope.names.lookup y=some .free:=hy
  rcases hy with hy|hy
  ·exact jmm hy
  ·exact absurd rfl (S.nofree _ (PySem.mem_of_lookup hy))
 ·exact Nat.le_of_lt (x.above y c (PySem.mem_of_lookup h))
 ·have hi:i<vs.length:=by
   unfold start at h2
   by_cases hi:i<vs.length
   ·exact hi
   ·rw[List.getElem?_append_right (by simpa using hi)] at h2
    rw[List.getElem?_replicate] at h2
    split at h2<;>cases h2
  have ha:vs[i]? = some v:=by
   unfold start at h2
   rw[List.getElem?_append_left (by simpa using hi),List.getElem?_map] at h2
   cases e:vs[i]? with
   | none=>rw[e] at h2;cases h2
   | some a=>rw[e] at h2;cases h2;rfl
  obtain⟨u,hu,rv⟩:=r.get ha
  have hp:ps[i]? = some y:=by
   rw[← S.pre,List.getElem?_take_of_lt (by omega)];exact h1
  have ndP:ps.Nodup:=by rw[← S.pre];exact S.nd.sublist (List.take_sublist _ _)
  refine⟨u,rv,?_⟩
  rcases S.par y (List.mem_of_getElem? hp) with k|k
  ·exact .inl ⟨k,jjy ndP hp hu k⟩
  ·obtain⟨c,e⟩:=jmm (n:=s.heap.objs.size+1) k
   refine .inr ⟨.inl k,c,e,?_⟩
   have q:=x.cell y c e
   rw[jjw ndP hp hu (by show scope.names.lookup y≠_;rw[k];decide)] at q
   exact q
 ·exact e0.hok.fresh (Nat.le_of_lt (x.above y c (PySem.mem_of_lookup h)))
 ·unfold start
  show _=N.length
  rw[List.length_append,List.length_map,List.length_replicate]
  omega
theorem jBp{CX:CXT}{P:Program}{w:World}{K:PySem.W.Frag}{mg:Str→Option Value}{base:Heap}{k:Nat}{f:Addr}{name qual:Str}{params:Arguments}{body:List Stmt}{scope:Scope}{dV kV doc pm cdv ct oc:Value}{an od:Option Addr}
  {osl:Array (Option Value)} {N ps:List Str} {sp:Sp} (lk:K.lookup f=some ⟨oc,od,.func (PySem.W.fnOf name qual params body scope dV kV doc pm an cdv ct),osl⟩) (hcd:PySem.W.codeIn K cdv qual=true) (S:FnScope N ps scope)
  (len:∀ vs H Q E,sp vs H Q E→vs.length=ps.length)
  (hbody:∀ (A:Around) (outer:List Env) (s:Shared) (H:Hp) (vs:List V) (Q:VK) (E:XK),Room k (A.deeper (envOfC qual scope s.heap.objs.size f cdv))→sp vs H Q E →
   ∃ t,PSs (cxOf CX P w K mg base N qual scope f cdv A outer s H E) body t∧t { nx:=fun _ H'=>Q .non H',rt:=Q } (start N vs) H) :
  FnOk P w K mg base CX (k+1) f (PySem.W.fnOf name qual params body scope dV kV doc pm an cdv ct) ps sp:=by
 refine⟨len,fun A outer s H args us vs Q E hr e0 hb r hsp=>?_⟩
 have hl:=len _ _ _ _ hsp
 have KX:K.In s.heap:=e0.mod.kin.keeps fun b o e=>(e0.bs b o e).1
 have lim:s.heap.NoLimit:=e0.mod.nolimit.keeps fun b o e=>(e0.bs b o e).1
 have hkind:∀ y∈ps.zip us,scope.names.lookup y.1=some .local∨(scope.names.lookup y.1=some .cell∧((cellsFrom (s.heap.objs.size+1) scope.names []).lookup y.1).isSome=true):=fun ⟨n,v⟩ hy=>by
  rcases S.par n (List.of_mem_zip hy).1 with q|q
  ·exact .inl q
  ·exact .inr ⟨q,PySem.W.cellsFrom_some _ _ _ (.inl q)⟩
 refine codeAny_call_function hr.depth (KX _ _ lk) rfl S.co S.gen rfl (PySem.W.codeRec_of KX hcd) (hb _ _ _ _ ?_)
 refine wpAny_newFunctionEnv_cells S.kind hkind fun env he s1 x=>?_
 subst he
 refine⟨lim.keeps x.toInCall.keep,codeAny_func ?_⟩
 obtain⟨t,ht,hq⟩:=hbody A outer s H vs Q E (hr.deeper _) hsp
 have I:Inv (cxOf CX P w K mg base N qual scope f cdv A outer s H E) [] (start N vs) H s1:=jpq S hr.hd e0 hl r x
 refine wpAny_mono (ht [] s1 (start N vs) H _ I hq) (fun fl s' hs=>?_) fun e s' hs=>hs
 have fin:∀ {σ':St} {H':Hp} {v:V} {u:Value},Inv (cxOf CX P w K mg base N qual scope f cdv A outer s H E) [] σ' H' s'→RelV v u→Q v H'→CE outer P w H s Q u s' :=
  fun {σ' H' v u} J rv q=>⟨v,H',J.os,J.bare,J.base,J.hok,rv,q⟩
 cases fl with
 | ret u =>
  obtain⟨v,σ',H',J,rv,q⟩:=hs
  exact fin J rv q
 | next =>
  obtain⟨σ',H',J,q⟩:=hs
  exact fin (v:=V.non) (u:=Value.none) J rfl q
 | brk =>
  obtain⟨_,_,_,q⟩:=hs
  exact False.elim q
 | cont =>
  obtain⟨_,_,_,q⟩:=hs
  exact False.elim q
section
variable {X:Cx}{x:Str}{p pos:Pos}{e:Expr}{es:List Expr}{t:TA}{id T:String}{r:List V→Hp→VK→Prop}
noncomputable def tCB(r:List V→Hp→VK→Prop)(t:TA):TE:=fun σ H Q=>t σ H fun vs H1=>r vs H1 Q
theorem jft(hc:CallR X (.builtin id) r)(hg:Gl X x)(hm:X.mg x=none)(hv:bootBuiltins x=some (.builtin id))(ha:PA X (e::es) t)(hn:autoParam (x≠"__name__") zau1._auto_1)(hdb:autoParam ((x == ("__debug__":Str))=false) zau1._auto_1)
  (he:autoParam (starEach (e::es) X.env=(false,eval e X.env)::starEach es X.env) zau2._auto_1) (hpl:autoParam ((backTo pos (starEach es X.env)).any (·.1)=false) zau2._auto_1):PE X (.Call (.Name x p) (e::es) [] pos) (tCB r t):=by
 intro pins s σ H Q I h
 refine wpAny_Call_Name_kw (jhf I hg hm hv ?_ hn hdb)
 exact PyProof.Rows.callWith_builtin1 (thn (ha pos pins s σ H _ I h) fun us s1 ⟨vs,H1,I1,r1,q1⟩=>hc pins s1 σ H1 vs us Q I1 r1 q1) he hpl
theorem jfu(hc:CallR X (.type T) r)(hg:Gl X x)(hm:X.mg x=none)(hv:bootBuiltins x=some (.type T))(ha:PA X (e::es) t)(hn:autoParam (x≠"__name__") zau1._auto_1)(hdb:autoParam ((x == ("__debug__":Str))=false) zau1._auto_1)
  (he:autoParam (starEach (e::es) X.env=(false,eval e X.env)::starEach es X.env) zau2._auto_1) (hpl:autoParam ((backTo pos (starEach es X.env)).any (·.1)=false) zau2._auto_1):PE X (.Call (.Name x p) (e::es) [] pos) (tCB r t):=by
 intro pins s σ H Q I h
 refine wpAny_Call_Name_kw (jhf I hg hm hv ?_ hn hdb)
 exact PyProof.Rows.callWith_type1 (thn (ha pos pins s σ H _ I h) fun us s1 ⟨vs,H1,I1,r1,q1⟩=>hc pins s1 σ H1 vs us Q I1 r1 q1) he hpl
end
end L2
namespace HT
open PySem PyProof.Rows
section
open PySem.SeqAt
open PySem.AutoSeq1 (wpAny_loadPart')
open PySem.MeetsSeq PySem.MeetsSeq2 PySem.MeetsSeq3
end
section
variable {prog:Program}{w:World}{A:Around}{E:Value→Shared→Prop}{s:Shared}
theorem cat_tup{t b:Addr}{vs ws:List Value}{Q:Value→Shared→Prop}(ht:IsTup s.heap t vs.toArray)(hb:IsTup s.heap b ws.toArray)(hv:vs≠[])
  (h1:ws=[]→Q (.ref t) s) (h2:ws≠[]→Q (.ref s.heap.objs.size) { s with heap:=s.heap.push { cls:=.type "tuple",data:=.seq (vs++ws).toArray } })
  (hsz:vs.length+ws.length≤sizeLine):wpAny (model prog w) A (binaryOp .Add (.ref t) (.ref b)) Q E s:=by
 obtain⟨⟨cls,dd,data,sl⟩,ho,hc,n,hd⟩:=id ht
 obtain⟨⟨cls2,dd2,data2,sl2⟩,ho2,hc2,n2,hd2⟩:=id hb
 simp only at hc hd hc2 hd2
 subst hc hd hc2 hd2
 have e:vs.toArray++ws.toArray=(vs++ws).toArray:=by simp
 by_cases hw:ws=[]
 ·exact concat_meets ⟨_,ho,rfl⟩ ⟨_,ho2,rfl⟩ noFill_tuple_add seq_tuple_add PySem.F.slot_tuple_add PySem.F.entry_tuple_add (PySem.F.args_tuple_add_2 _ _)
   (tuple_addW1 t b vs.toArray ws.toArray n n2 dd dd2 sl sl2 (by simpa using hv) (by simp[hw])) ⟨ho,ho2,h1 hw⟩
 ·refine concat_meets ⟨_,ho,rfl⟩ ⟨_,ho2,rfl⟩ noFill_tuple_add seq_tuple_add PySem.F.slot_tuple_add PySem.F.entry_tuple_add (PySem.F.args_tuple_add_2 _ _)
   (tuple_addW2 t b vs.toArray ws.toArray n n2 dd dd2 sl sl2 (by simpa using hv) (by simpa using hw) (by rw[List.size_toArray,List.size_toArray];exact hsz)) ⟨ho,ho2,?_⟩
  rw[e]
  exact h2 hw
noncomputable def sIx(n d:Nat):Option Int→Nat
 | none=>d
 | some v=>if v<0 then (v+(n:Int)).toNat else min v.toNat n
theorem sIx_nat(n d k:Nat):sIx n d (some (k:Int))=min k n:=by
 show (if (k:Int)<0 then ((k:Int)+(n:Int)).toNat else min (k:Int).toNat n)=min k n
 rw[if_neg (by omega),Int.toNat_natCast]
theorem jAe(n d:Nat)(hd:d≤n)(o:Option Int):sIx n d o≤n:=by
 cases o with
 | none=>exact hd
 | some v =>
  show (if v<0 then (v+(n:Int)).toNat else min v.toNat n)≤n
  by_cases hv:v<0
  ·rw[if_pos hv];omega
  ·rw[if_neg hv];exact Nat.min_le_right _ _
theorem jo1(v:Int)(n d:Nat):(if v<0 then max (v+(n:Int)) 0 else min v (n:Int))=((sIx n d (some v):Nat):Int):=by
 show (if v<0 then max (v+(n:Int)) 0 else min v (n:Int))=(((if v<0 then (v+(n:Int)).toNat else min v.toNat n):Nat):Int)
 by_cases hv:v<0
 ·simp only[if_pos hv];omega
 ·simp only[if_neg hv];omega
theorem jnn(lo hi:Option Int)(n:Nat):Builtin.Slice.sliceAdjust lo hi 1 (n:Int)=(((sIx n 0 lo:Nat):Int),((sIx n n hi:Nat):Int)):=by
 have h1:¬ ((1:Int)<0):=by omega
 unfold Builtin.Slice.sliceAdjust
 simp only[h1,if_false]
 refine Prod.ext ?_ ?_
 ·cases lo with
  | none=>rfl
  | some v=>exact jo1 v n 0
 ·cases hi with
  | none=>rfl
  | some v=>exact jo1 v n n
theorem jn7(i j:Nat):Builtin.Slice.slicePlaces (i:Int) (j:Int) 1=j-i:=by
 unfold Builtin.Slice.slicePlaces
 have h1:(1:Int) > 0:=by omega
 simp only[h1,if_true,Int.ediv_one]
 split<;>omega
theorem jis{v:Value}{o:Option Int}{Q:Option Int→Shared→Prop}(p:IsPart v o)(h:Q o s):wpAny (model prog w) A (Builtin.Slice.slicePartIndex v) Q E s:=by
 cases p with
 | none=>exact slicePart_none h
 | int i t=>exact slicePart_int h
theorem jgg{sl:Addr}{vl vu:Value}{lo hi:Option Int}{n:Nat}{Q:Int×Int×Nat→Shared→Prop}(hs:s.heap.IsSliceOf sl vl vu .none)(pl:IsPart vl lo)(pu:IsPart vu hi)
  (h:Q (((sIx n 0 lo:Nat):Int),1,sIx n n hi-sIx n 0 lo) s):wpAny (model prog w) A (Builtin.Slice.sliceApplied (.ref sl) (pure (n:Int))) Q E s:=by
 obtain⟨os,hos,hcs,hds⟩:=id hs
 unfold Builtin.Slice.sliceApplied Builtin.Slice.sliceFields
 refine wpAny_bind (wpAny_bind (wpAny_field hos hds (x:=vl) rfl (wpAny_bind (wpAny_field hos hds (x:=vu) rfl (wpAny_bind (wpAny_field hos hds (x:=.none) rfl (wpAny_pure ?_)))))))
 refine wpAny_bind (slicePart_none ?_)
 show wpAny _ _ (if ((1:Int) == 0)=true then _ else _) _ _ s
 rw[if_neg (by decide)]
 refine wpAny_bind (jis pl (wpAny_bind (jis pu (wpAny_bind (wpAny_pure ?_)))))
 show wpAny _ _ (match Builtin.Slice.sliceAdjust lo hi 1 (n:Int) with|(lo,hi)=>pure (lo,(1:Int),Builtin.Slice.slicePlaces lo hi 1)) _ _ s
 rw[jnn lo hi n]
 show wpAny _ _ (pure (((sIx n 0 lo:Nat):Int),(1:Int),Builtin.Slice.slicePlaces ((sIx n 0 lo:Nat):Int) ((sIx n n hi:Nat):Int) 1)) _ _ s
 rw[jn7]
 exact wpAny_pure h
theorem jtj(xs:Array Value)(i k:Nat):((List.range k).filterMap fun (m:Nat)=>xs[((i:Int)+(m:Int)*1).toNat]?).toArray=((xs.toList.drop i).take k).toArray:=by
 have e:(fun (m:Nat)=>xs[((i:Int)+(m:Int)*1).toNat]?)=fun m=>xs[i+m]?:=by
  funext m
  have:((i:Int)+(m:Int)*1).toNat=i+m:=by omega
  rw[this]
 rw[e]
 have:=pick_run xs i k
 rw[List.filterMap_map] at this
 have e2:((fun x=>xs[x]?) ∘ fun x=>i+x)=fun m=>xs[i+m]?:=rfl
 rw[e2] at this
 rw[this]
theorem getItem_tuple_cut{t sl:Addr}{items:Array Value}{vl vu:Value}{lo hi:Option Int}{Q:Value→Shared→Prop}(ht:IsTup s.heap t items)(hs:s.heap.IsSliceOf sl vl vu .none)(pl:IsPart vl lo)(pu:IsPart vu hi)
  (hw:¬ (sIx items.size 0 lo=0∧sIx items.size items.size hi=items.size))
  (h:Q (.ref s.heap.objs.size) { s with heap:=s.heap.push { cls:=.type "tuple",data:=.seq ((items.toList.drop (sIx items.size 0 lo)).take (sIx items.size items.size hi-sIx items.size 0 lo)).toArray } })
  (hsz:items.size≤sizeLine):wpAny (model prog w) A (getItem (.ref t) (.ref sl)) Q E s:=by
 have htake:sizeOk (.seq ((items.toList.drop (sIx items.size 0 lo)).take (sIx items.size items.size hi-sIx items.size 0 lo)).toArray):=by
  show ((items.toList.drop (sIx items.size 0 lo)).take (sIx items.size items.size hi-sIx items.size 0 lo)).toArray.size≤sizeLine
  rw[List.size_toArray,List.length_take,List.length_drop,Array.length_toList]
  omega
 have hj:sIx items.size items.size hi≤items.size:=jAe _ _ (Nat.le_refl _) hi
 obtain⟨os,hos,hcs,hds⟩:=id hs
 have hTs:s.TypeIs (.ref sl) "slice":=⟨os,hos,hcs⟩
 unfold getItem
 try with_reducible refine wpAny_holding ?_
 first|refine wpAny_bind (wpAny_pure ?_)|skip
 refine wpAny_bind (wpAny_sequenceKey ht.typeIs (by decide) ?_)
 refine wpAny_bind (wpAny_callSpecial?_slot (name:=Str.ofString "__getitem__") ht.typeIs PyProof.Rows.slot_tuple_getitem
  (wpAny_call_entry PyProof.Rows.slot_tuple_getitem ht.typeIs entry_tuple_getitem ?_ (args_tuple_getitem _ _)))
 show wpAny _ _ (Builtin.Tuple.tupleItemsOf (.ref t) >>= _) _ _ s
 refine wpAny_bind (tupleItemsOf_ ht ?_)
 refine wpAny_bind (wpAny_typeOf hTs ?_)
 rw[if_pos (by decide)]
 refine wpAny_bind (jgg hs pl pu ?_)
 have hno:¬ ((((sIx items.size 0 lo:Nat):Int) == 0&&(1:Int) == 1&&(sIx items.size items.size hi-sIx items.size 0 lo) == items.size)=true):=by
  intro q
  rw[Bool.and_eq_true,Bool.and_eq_true] at q
  have q1:((sIx items.size 0 lo:Nat):Int)=0:=eq_of_beq q.1.1
  have q2:sIx items.size items.size hi-sIx items.size 0 lo=items.size:=eq_of_beq q.2
  exact hw ⟨by omega,by omega⟩
 show wpAny _ _ (if (((sIx items.size 0 lo:Nat):Int) == 0&&(1:Int) == 1&&(sIx items.size items.size hi-sIx items.size 0 lo) == items.size)=true then _ else _) _ _ s
 rw[if_neg hno,jtj]
 first
  | exact wpAny_bind (m:=Builtin.Tuple.tupleExact _) (wpAny_newObj_type (wpAny_pure ⟨_,rfl,wpAny_pure h⟩) htake)
  | exact wpAny_bind (m:=Builtin.Tuple.tupleExact _) (wpAny_newObj_type (wpAny_bind (wpAny_pure (wpAny_pure ⟨_,rfl,wpAny_pure h⟩))) htake)
  | exact wpAny_bind (wpAny_bind (m:=Builtin.Tuple.tupleExact _) (wpAny_newObj_type (wpAny_pure (wpAny_pure ⟨_,rfl,wpAny_pure h⟩)) htake))
  | exact wpAny_bind (wpAny_bind (m:=Builtin.Tuple.tupleExact _) (wpAny_newObj_type (wpAny_pure ⟨_,rfl,wpAny_pure h⟩) htake))
end
end HT
namespace L2
open PySem PySem.Spec PyProof.Rows
noncomputable abbrev TO:=St→Hp→(Option Int→Hp→Prop)→Prop
noncomputable def PO(X:Cx)(e:Option Expr)(t:TO):Prop :=
 ∀ (pins:List (Addr×Obj)) (s:Shared) (σ:St) (H:Hp) (Q:Option Int→Hp→Prop),Inv X pins σ H s→t σ H Q →
  wpAny (model X.prog X.w) X.A (evalPart e X.env) (fun u s'=>∃ o H',Inv X pins σ H' s'∧IsPart u o∧Q o H') X.xe s
noncomputable def jxf:TO:=fun _ H Q=>Q none H
noncomputable def jCs(t:TE):TO:=fun σ H Q=>t σ H fun x H1=>∃ i,x=.int i∧Q (some i) H1
section
variable {X:Cx}{e:Expr}{te:TE}{lo hi:Option Expr}{tl th:TO}{pos p2:Pos}
theorem jws:PO X none jxf:=by
 intro pins s σ H Q I h
 rw[evalPart_none]
 exact wpAny_pure ⟨none,H,I,.none,h⟩
theorem jwt(h:PE X e te):PO X (some e) (jCs te):=by
 intro pins s σ H Q I hw
 rw[evalPart_some]
 refine thn (h pins s σ H _ I hw) fun u s1 hzz=>?_
 obtain⟨x,H1,I1,r1,q1⟩:=hzz
 obtain⟨i,rfl,q⟩:=q1
 obtain⟨t,rfl⟩:=r1
 exact⟨some i,H1,I1,.int i t,q⟩
noncomputable def SlR(X:Cx)(r:V→Option Int→Option Int→Hp→VK→Prop):Prop :=
 ∀ (pins:List (Addr×Obj)) (s:Shared) (σ:St) (H:Hp) (x:V) (v vl vu:Value) (lo hi:Option Int) (sl:Addr) (Q:VK),Inv X pins σ H s→RelV x v→s.heap.IsSliceOf sl vl vu .none→IsPart vl lo→IsPart vu hi→r x lo hi H Q →
  ∃ T id,typeLookup (.type T) "__getitem__"=pure (some (.builtin id))∧s.TypeIs v T∧wpAny (model X.prog X.w) X.A (getItem v (.ref sl)) (EP X pins σ Q) X.xe s
theorem SlR.or{r r':V→Option Int→Option Int→Hp→VK→Prop}(h:SlR X r)(h':SlR X r'):SlR X (fun x lo hi H Q=>r x lo hi H Q∨r' x lo hi H Q):=by
 intro pins s σ H x v vl vu lo hi sl Q I rx hs pl pu q
 rcases q with q|q
 ·exact h pins s σ H x v vl vu lo hi sl Q I rx hs pl pu q
 ·exact h' pins s σ H x v vl vu lo hi sl Q I rx hs pl pu q
noncomputable def tSl(r:V→Option Int→Option Int→Hp→VK→Prop)(te:TE)(tl th:TO):TE:=fun σ H Q=>te σ H fun x H1=>tl σ H1 fun l H2=>th σ H2 fun u H3=>r x l u H3 Q
theorem jm8{r:V→Option Int→Option Int→Hp→VK→Prop}(hr:SlR X r)(he:PE X e te)(hl:PO X lo tl)(hu:PO X hi th):PE X (.Subscript e (.Slice lo hi none p2) pos) (tSl r te tl th):=by
 intro pins s σ H Q I h
 refine Subscript_ (thn (he pins s σ H _ I h) fun v s1 hzz=>?_)
 obtain⟨x,H1,I1,r1,q1⟩:=hzz
 refine wpAny_Slice (thn (hl pins s1 σ H1 _ I1 q1) fun vl s2 ⟨l,H2,I2,pl,q2⟩=>thn (hu pins s2 σ H2 _ I2 q2) fun vu s3 hzz=>?_)
 obtain⟨u,H3,I3,pu,q3⟩:=hzz
 rw[evalPart_none]
 refine wpAny_pure ?_
 have I4:Inv X pins σ H3 { s3 with heap:=s3.heap.push { cls:=.type "slice",data:=.fields #[vl,vu,.none] } }:=I3.kept (t':=s3.toks) fun b ob q=>Heap.get?_push_of_some _ q
 obtain⟨T,id,hT,ht,hg⟩:=hr pins { s3 with heap:=s3.heap.push { cls:=.type "slice",data:=.fields #[vl,vu,.none] } } σ H3 x v vl vu l u s3.heap.objs.size Q I4 r1 (Heap.IsSliceOf.new ..) pl pu q3
 show wpAny (model X.prog X.w) X.A (subscriptTail e (.Slice lo hi none p2) v (.ref s3.heap.objs.size)) (EP X pins σ Q) X.xe { s3 with heap:=s3.heap.push { cls:=.type "slice",data:=.fields #[vl,vu,.none] } }
 exact tail_any (ops:=[.ref s3.heap.objs.size,v]) ht hT hg (by with_unfolding_all rfl)
noncomputable def cutV(xs:List V)(lo hi:Option Int):List V:=(xs.drop (HT.sIx xs.length 0 lo)).take (HT.sIx xs.length xs.length hi-HT.sIx xs.length 0 lo)
theorem jgy(xs:List V)(lo hi:Option Int):(cutV xs lo hi).length≤xs.length:=by
 unfold cutV
 rw[List.length_take,List.length_drop]
 omega
noncomputable def rSlT(K:PySem.W.Frag):V→Option Int→Option Int→Hp→VK→Prop:=fun x lo hi H Q=>∃ a xs,x=.ref a∧SqT K H a xs ∧
 ¬ (HT.sIx xs.length 0 lo=0∧HT.sIx xs.length xs.length hi=xs.length)∧∀ p,H p=none→Q (.ref p) (upd H p (.tup (cutV xs lo hi)))
theorem sl_tup:SlR X (rSlT X.K):=by
 intro pins s σ H x v vl vu lo hi sl Q I rx hs pl pu h
 obtain⟨a,xs,rfl,hx,hw,q⟩:=h
 cases rx
 obtain⟨its,r,ht,hz⟩:=I.tuple hx
 have hlen:its.toArray.size=xs.length:=by rw[List.size_toArray];exact r.length.symm
 refine⟨"tuple",_,PyProof.Rows.slot_tuple_getitem.lookup,ht.typeIs,?_⟩
 refine HT.getItem_tuple_cut ht hs pl pu (by rw[hlen];exact hw) ?_ (by rw[hlen];exact hz)
 rw[hlen]
 refine⟨.ref s.heap.objs.size,_,I.laid (t':=s.toks) (o:=.tup (cutV xs lo hi)) (fun b ob q=>Heap.get?_push_of_some _ q) (Nat.le_refl _) ?_,rfl,q _ (I.hok.fresh (Nat.le_refl _))⟩
 exact⟨Nat.le_trans (jgy xs lo hi) hz,_,(r.drop (HT.sIx xs.length 0 lo)).take (HT.sIx xs.length xs.length hi-HT.sIx xs.length 0 lo),IsTup.new _ _⟩
noncomputable def jwz(K:PySem.W.Frag):R2:=fun x y H Q=>∃ a b xs ys,x=.ref a∧y=.ref b∧SqT K H a xs∧SqT K H b ys∧xs≠[]∧xs.length+ys.length≤sizeLine ∧
 (ys=[]→Q (.ref a) H)∧(ys≠[]→∀ p,H p=none→Q (.ref p) (upd H p (.tup (xs++ys))))
theorem Vals.nil_iff{xs:List V}{us:List Value}(r:Vals xs us):us=[]↔xs=[]:=by
 cases r with
 | nil=>simp
 | cons _ _=>simp
theorem jwi:OpR X (binaryOp .Add) (jwz X.K):=by
 intro pins s σ H x y v u Q I rx ry h
 obtain⟨a,b,xs,ys,rfl,rfl,ha,hb,hx,hz,q1,q2⟩:=h
 cases rx
 cases ry
 obtain⟨its,r1,p1,_⟩:=I.tuple ha
 obtain⟨its2,r2,p2,_⟩:=I.tuple hb
 refine HT.cat_tup p1 p2 (fun z=>hx (r1.nil_iff.mp z)) (fun z=>⟨.ref a,H,I,rfl,q1 (r2.nil_iff.mp z)⟩) (fun z=>?_) (by rw[← r1.length,← r2.length];exact hz)
 refine⟨.ref s.heap.objs.size,_,I.laid (t':=s.toks) (o:=.tup (xs++ys)) (fun b ob q=>Heap.get?_push_of_some _ q) (Nat.le_refl _) ?_,rfl,q2 (fun w=>z (r2.nil_iff.mpr w)) _ (I.hok.fresh (Nat.le_refl _))⟩
 exact⟨by rw[List.length_append];exact hz,_,r1.append r2,IsTup.new _ _⟩
end
noncomputable def ixN(n:Nat)(i:Int):Option Nat:=if 0≤i then (if i<n then some i.toNat else none) else if -(n:Int)≤i then some (i+n).toNat else none
noncomputable def atI{α:Type}(xs:List α)(i:Int):Option α:=(ixN xs.length i).bind fun j=>xs[j]?
theorem jps{n:Nat}{i:Int}{j:Nat}(h:ixN n i=some j):seqIndex? i n=some j∧j<n∧-(n:Int)≤i∧i<n:=by
 unfold ixN at h
 by_cases h0:0≤i
 ·rw[if_pos h0] at h
  by_cases h1:i<n
  ·rw[if_pos h1] at h
   have e:i.toNat=j:=Option.some.inj h
   exact⟨by rw[seqIndex_of h0 h1,e],by omega,by omega,h1⟩
  ·rw[if_neg h1] at h;cases h
 ·rw[if_neg h0] at h
  by_cases h1:-(n:Int)≤i
  ·rw[if_pos h1] at h
   have e:(i+n).toNat=j:=Option.some.inj h
   exact⟨by rw[seqIndex_neg (by omega) h1,e],by omega,h1,by omega⟩
  ·rw[if_neg h1] at h;cases h
theorem atI_get{α:Type}{xs:List α}{i:Int}{v:α}(h:atI xs i=some v):∃ j,seqIndex? i xs.length=some j∧xs[j]? = some v∧j<xs.length∧-(xs.length:Int)≤i∧i<xs.length:=by
 unfold atI at h
 cases e:ixN xs.length i with
 | none=>rw[e] at h;cases h
 | some j =>
  rw[e] at h
  obtain⟨h1,h2,h3,h4⟩:=jps e
  exact⟨j,h1,h,h2,h3,h4⟩
noncomputable def jgo(b:Expr):Prop:=∀ o i,subscripted b false o i=operate [o,i] (getItem o i)
noncomputable def IxR(X:Cx)(r:R2):Prop :=
 ∀ (value slice:Expr) (pins:List (Addr×Obj)) (s:Shared) (σ:St) (H:Hp) (x y:V) (v u:Value) (Q:VK),Inv X pins σ H s→RelV x v→RelV y u→r x y H Q →
  subscripted slice false v u=operate [v,u] (getItem v u)→wpAny (model X.prog X.w) X.A (subscriptTail value slice v u) (EP X pins σ Q) X.xe s
noncomputable def MtR(X:Cx)(id:String)(r:V→List V→Hp→VK→Prop):Prop :=
 ∀ (pins:List (Addr×Obj)) (s:Shared) (σ:St) (H:Hp) (x:V) (xs:List V) (v:Value) (us:List Value) (Q:VK),Inv X pins σ H s→RelV x v→Vals xs us→r x xs H Q →
  wpAny (model X.prog X.w) X.A (call (.builtin id) (v::us)) (EP X pins σ Q) X.xe s
section
variable {X:Cx}{a b:Expr}{ta tb:TE}{pos:Pos}
theorem IxR.or{r r':R2}(h:IxR X r)(h':IxR X r'):IxR X (fun x y H Q=>r x y H Q∨r' x y H Q):=by
 intro value slice pins s σ H x y v u Q I rx ry q hs
 rcases q with q|q
 ·exact h value slice pins s σ H x y v u Q I rx ry q hs
 ·exact h' value slice pins s σ H x y v u Q I rx ry q hs
theorem jtf{r:R2}(hr:IxR X r)(ha:PE X a ta)(hb:PE X b tb)(hs:jgo b):PE X (.Subscript a b pos) (tOp r ta tb):=by
 intro pins s σ H Q I h
 exact Subscript_ (binT ha hb I h fun v u s2 x y H2 I2 rx ry q=>hr a b pins s2 σ H2 x y v u Q I2 rx ry q (hs _ _))
noncomputable def rIxL(K:PySem.W.Frag):R2:=fun x y H Q=>∃ p xs i v,x=.ref p∧y=.int i∧SqL K H p xs∧atI xs i=some v∧Q v H
noncomputable def rIxT(K:PySem.W.Frag):R2:=fun x y H Q=>∃ p xs i v,x=.ref p∧y=.int i∧SqT K H p xs∧atI xs i=some v∧Q v H
noncomputable def rIxS:R2:=fun x y H Q=>∃ z i c,x=.str z∧y=.int i∧z.length≤sizeLine∧atI z.cps.toList i=some c∧Q (.str ⟨#[c]⟩) H
theorem ix_list:IxR X (rIxL X.K):=by
 intro value slice pins s σ H x y v u Q I rx ry h hs
 obtain⟨p,xs,i,z,rfl,rfl,hq,he,q⟩:=h
 cases rx
 obtain⟨t,rfl⟩:=ry
 obtain⟨its,r,pl,hz⟩:=I.list hq
 obtain⟨j,h1,h2,h3,h4,h5⟩:=atI_get he
 obtain⟨w,ew,rw'⟩:=r.get h2
 have hl:=r.length
 have hn:=jhi
 have fin:EP X pins σ Q w s:=⟨z,H,I,rw',q⟩
 by_cases h0:0≤i
 ·have hj:i.toNat=j:=by
   rw[seqIndex_of h0 h5] at h1
   exact Option.some.inj h1
  exact item_listR pl.isList h0 (by omega) (by rw[hj];simpa using ew) fin hs
 ·have hj:(i+(its.toArray.size:Int)).toNat=j:=by
   rw[seqIndex_neg (by omega) h4] at h1
   rw[List.size_toArray,← hl]
   exact Option.some.inj h1
  exact subscriptTail_builtinR (x:=w) pl.isList.typeIs slot_list_getitem.lookup
   (wpAny_getItem_list_neg (Q:=fun r s'=>r=w∧EP X pins σ Q r s') pl.isList (by omega) (by rw[List.size_toArray]<;>omega) (by omega) (by rw[hj];simpa using ew) ⟨rfl,fin⟩) hs
theorem ix_tup:IxR X (rIxT X.K):=by
 intro value slice pins s σ H x y v u Q I rx ry h hs
 obtain⟨p,xs,i,z,rfl,rfl,hq,he,q⟩:=h
 cases rx
 obtain⟨t,rfl⟩:=ry
 obtain⟨its,r,pl,hz⟩:=I.tuple hq
 obtain⟨j,h1,h2,h3,h4,h5⟩:=atI_get he
 obtain⟨w,ew,rw'⟩:=r.get h2
 have hl:=r.length
 have hn:=jhi
 have fin:EP X pins σ Q w s:=⟨z,H,I,rw',q⟩
 exact subscriptTail_builtinR (x:=w) pl.typeIs slot_tuple_getitem.lookup
  (getItem_tuple (j:=j) (Q:=fun r s'=>r=w∧EP X pins σ Q r s') pl (by omega) (by omega) (by rw[List.size_toArray,← hl];exact h1) (by simpa using ew) ⟨rfl,fin⟩) hs
theorem jyu:IxR X rIxS:=by
 intro value slice pins s σ H x y v u Q I rx ry h hs
 obtain⟨z,i,c,rfl,rfl,hz,he,q⟩:=h
 obtain⟨t,rfl⟩:=rx
 obtain⟨t',rfl⟩:=ry
 obtain⟨j,h1,h2,h3,h4,h5⟩:=atI_get he
 have hl:z.cps.toList.length=z.length:=by simp[Str.length]
 rw[hl] at h1 h4 h5
 have hn:=jhi
 exact tail_any (typeIs_str s z t) slot_str_getitem.lookup (getItem_str (c:=c) (by
  have e1:decide (i < -(2 ^ 63:Int))=false:=decide_eq_false (by omega)
  have e2:decide (i ≥ 2 ^ 63)=false:=decide_eq_false (by omega)
  rw[e1,e2,Bool.or_false]) (by rw[h1];simpa using h2) ⟨.str ⟨#[c]⟩,H,I.tok _,⟨_,rfl⟩,q⟩) hs
noncomputable def rIx(K:PySem.W.Frag):R2:=fun x y H Q=>rIxL K x y H Q∨rIxT K x y H Q∨rIxS x y H Q
theorem jbd:IxR X (rIx X.K):=ix_list.or (ix_tup.or jyu)
theorem jn2(its:List Value)(n j:Nat)(u:Value):Obj.mapSeq (·.setIfInBounds j u) { cls:=.type "list",data:=.seq its.toArray n }={ cls:=.type "list",data:=.seq (its.set j u).toArray n }:=by
 simp[Obj.mapSeq]
theorem Inv.lst{pins:List (Addr×Obj)}{σ:St}{H:Hp}{s:Shared}{p:Addr}{xs:List V}(I:Inv X pins σ H s)(h:H p=some (.lst xs)) :
  ∃ (its:List Value) (n:Nat),Vals xs its∧s.heap.get? p=some { cls:=.type "list",data:=.seq its.toArray n }∧xs.length≤sizeLine:=by
 obtain⟨z,its,n,r,e⟩:=I.hok p _ h
 exact⟨its,n,r,e,z⟩
theorem Inv.lstUpd{pins:List (Addr×Obj)}{σ:St}{H:Hp}{s:Shared}{p:Addr}{xs ys:List V}{its its':List Value}{n n':Nat}{f:Obj→Obj}(I:Inv X pins σ H s)(h:H p=some (.lst xs))
  (ho:s.heap.get? p=some { cls:=.type "list",data:=.seq its.toArray n }) (hf:f { cls:=.type "list",data:=.seq its.toArray n }={ cls:=.type "list",data:=.seq its'.toArray n' }) (r:Vals ys its') (hz:ys.length≤sizeLine) (t:Nat) :
  Inv X pins σ (upd H p (.lst ys)) { s with heap:=s.heap.update p f,toks:=t }:=by
 have e:(s.heap.update p f).get? p=some { cls:=.type "list",data:=.seq its'.toArray n' }:=by
  rw[Heap.get?_update_self f ho (by rw[hf]<;>rfl),hf]
 refine I.write (x:=p) (e:=p) (by rw[h];trivial) (.inl rfl) (fun b u hb q=>(Heap.get?_update_other _ _ (Ne.symm hb)).trans q) ⟨_,e⟩ ?_
 exact⟨hz,its',n',r,e⟩
noncomputable def jB8:V→V→V→Hp→(Hp→Prop)→Prop:=fun o i v H Q=>∃ p xs k j,o=.ref p∧i=.int k∧H p=some (.lst xs)∧ixN xs.length k=some j∧Q (upd H p (.lst (xs.set j v)))
theorem jjr:PSet X jB8:=by
 intro pins s σ H o i v ov iv u Q I ro ri rv h
 obtain⟨p,xs,k,j,rfl,rfl,hp,hj,q⟩:=h
 cases ro
 obtain⟨t,rfl⟩:=ri
 obtain⟨its,n,r,ho,hz⟩:=I.lst hp
 obtain⟨h1,h2,h3,h4⟩:=jps hj
 have hl:=r.length
 have hn:=jhi
 have I':Inv X pins σ (upd H p (.lst (xs.set j v))) { s with heap:=s.heap.update p (Obj.mapSeq (·.setIfInBounds j u)) } :=
  I.lstUpd hp ho (jn2 its n j u) (r.set rv j) (by rw[List.length_set];exact hz) s.toks
 by_cases h0:0≤k
 ·have hk:k.toNat=j:=by
   rw[seqIndex_of h0 h4] at h1
   exact Option.some.inj h1
  exact PySem.W.ki_setAt ho h0 (by omega) (by rw[List.size_toArray,← hl];exact h4) (by rw[hk];exact⟨_,I',q⟩)
 ·have hk:(k+(its.toArray.size:Int)).toNat=j:=by
   rw[seqIndex_neg (by omega) h3] at h1
   rw[List.size_toArray,← hl]
   exact Option.some.inj h1
  exact PySem.W.ki_setBack ho (by omega) (by rw[List.size_toArray,← hl];exact h3) (by omega) (by rw[hk];exact⟨_,I',q⟩)
theorem jk5(lo hi:Option Int)(n:Nat):(sliceBounds lo hi none n).1=((HT.sIx n 0 lo:Nat):Int)∧(sliceBounds lo hi none n).2.1=((HT.sIx n n hi:Nat):Int)∧(sliceBounds lo hi none n).2.2=1:=by
 refine⟨?_,?_,rfl⟩
 ·cases lo with
  | none=>simp[sliceBounds,HT.sIx]
  | some i =>
   simp only[sliceBounds,HT.sIx,Option.getD_none,show (1:Int) > 0 by decide,if_true]
   by_cases h:i<0
   ·simp only[h,if_true]<;>omega
   ·simp only[h,if_false]<;>omega
 ·cases hi with
  | none=>simp[sliceBounds,HT.sIx]
  | some i =>
   simp only[sliceBounds,HT.sIx,Option.getD_none,show (1:Int) > 0 by decide,if_true]
   by_cases h:i<0
   ·simp only[h,if_true]<;>omega
   ·simp only[h,if_false]<;>omega
theorem jjs(its:List Value)(lo hi:Option Int):slicePick its.toArray lo hi none=((its.drop (HT.sIx its.length 0 lo)).take (HT.sIx its.length its.length hi-HT.sIx its.length 0 lo)).toArray:=by
 obtain⟨h1,h2,h3⟩:=jk5 lo hi its.toArray.size
 unfold slicePick
 rw[h1,h2,h3]
 simp only[sliceRange_one,pick_run,List.size_toArray]<;>rfl
noncomputable def rSlL(K:PySem.W.Frag):V→Option Int→Option Int→Hp→VK→Prop:=fun x lo hi H Q=>∃ a xs,x=.ref a∧SqL K H a xs∧∀ p,H p=none→Q (.ref p) (upd H p (.lst (cutV xs lo hi)))
theorem sl_list:SlR X (rSlL X.K):=by
 intro pins s σ H x v vl vu lo hi sl Q I rx hs pl pu h
 obtain⟨a,xs,rfl,hx,q⟩:=h
 cases rx
 obtain⟨its,r,ht,hz⟩:=I.list hx
 have hlen:=r.length
 refine⟨"list",_,slot_list_getitem.lookup,ht.isList.typeIs,?_⟩
 refine wpAny_getItem_list_slice ht.isList hs pl pu .none (by simp) ?_ (by rw[List.size_toArray]<;>omega)
 rw[jjs,← hlen]
 refine⟨.ref s.heap.objs.size,_,I.laid (t':=s.toks) (o:=.lst (cutV xs lo hi)) (fun b ob q=>Heap.get?_push_of_some _ q) (Nat.le_refl _) ?_,rfl,q _ (I.hok.fresh (Nat.le_refl _))⟩
 exact⟨Nat.le_trans (jgy xs lo hi) hz,_,0,(r.drop (HT.sIx xs.length 0 lo)).take (HT.sIx xs.length xs.length hi-HT.sIx xs.length 0 lo),Heap.get?_push_size _ rfl⟩
theorem call_len_seq:CallR X (.builtin "len") (fun xs H Q=>∃ p ys,xs=[.ref p]∧(SqL X.K H p ys∨SqT X.K H p ys)∧Q (.int ys.length) H):=by
 intro pins s σ H xs us Q I r h
 obtain⟨p,ys,rfl,hq,q⟩:=h
 obtain⟨u,rfl,rx⟩:=jmi r
 cases rx
 have hn:=jhi
 rcases hq with hq|hq
 ·obtain⟨its,r',pl,hz⟩:=I.list hq
  have hlen:=r'.length
  exact Calls.call_len_list pl.isList (by simp only[List.size_toArray]<;>omega) ⟨.int ys.length,H,I.tok _,⟨s.toks+1,by rw[List.size_toArray,hlen]⟩,q⟩
 ·obtain⟨its,r',pl,hz⟩:=I.tuple hq
  have hlen:=r'.length
  exact len_tuple pl (by simp only[List.size_toArray]<;>omega) ⟨.int ys.length,H,I.tok _,⟨s.toks+1,by rw[List.size_toArray,hlen]⟩,q⟩
theorem jj4:CallR X (.builtin "len") (fun xs H Q=>∃ z,xs=[.str z]∧z.length≤sizeLine∧Q (.int z.length) H):=by
 intro pins s σ H xs us Q I r h
 obtain⟨z,rfl,hz,q⟩:=h
 obtain⟨u,rfl,t,rfl⟩:=jmi r
 have hn:=jhi
 exact len_str (by omega) ⟨.int z.length,H,I.tok _,⟨_,rfl⟩,q⟩
theorem CallR.or{f:Value}{r r':List V→Hp→VK→Prop}(h:CallR X f r)(h':CallR X f r'):CallR X f (fun xs H Q=>r xs H Q∨r' xs H Q):=by
 intro pins s σ H xs us Q I rs q
 rcases q with q|q
 ·exact h pins s σ H xs us Q I rs q
 ·exact h' pins s σ H xs us Q I rs q
theorem jj5:CallR X (.type "list") (fun xs H Q=>∃ p ys,xs=[.ref p]∧(SqL X.K H p ys∨SqT X.K H p ys)∧∀ l,H l=none→Q (.ref l) (upd H l (.lst ys))):=by
 intro pins s σ H xs us Q I r h
 obtain⟨p,ys,rfl,hq,q⟩:=h
 obtain⟨u,rfl,rx⟩:=jmi r
 cases rx
 have fin:∀ (its:List Value),Vals ys its→ys.length≤sizeLine→∀ (h':Heap) (c':Nat),(∀ b o',s.heap.get? b=some o'→h'.get? b=some o') →
   h'.get? s.heap.objs.size=some { cls:=.type "list",dict:=none,data:=.seq its.toArray c',slots:=#[] }→EP X pins σ Q (.ref s.heap.objs.size) { s with heap:=h' }:=fun its r' hz h' c' kp e =>
  ⟨.ref s.heap.objs.size,_,I.laid (t':=s.toks) kp (Nat.le_refl _) (show ObjOk X.prog X.w _ h' _ (.lst ys) from ⟨hz,its,c',r',e⟩),rfl,q _ (I.hok.fresh (Nat.le_refl _))⟩
 rcases hq with hq|hq
 ·obtain⟨its,r',pl,hz⟩:=I.list hq
  have hlen:=r'.length
  obtain⟨o,ho,hc,n,hd⟩:=pl.isList
  exact call_list_seq p (.inl rfl) ho hc hd (fun h' c' kp e=>fin its r' hz h' c' kp e) (by simp only[List.size_toArray]<;>omega)
 ·obtain⟨its,r',pl,hz⟩:=I.tuple hq
  have hlen:=r'.length
  obtain⟨o,ho,hc,n,hd⟩:=pl
  exact call_list_seq p (.inr rfl) ho hc hd (fun h' c' kp e=>fin its r' hz h' c' kp e) (by simp only[List.size_toArray]<;>omega)
theorem ji5:CallR X (.type "tuple") (fun xs H Q=>∃ p ys,xs=[.ref p]∧((SqL X.K H p ys∧∀ l,H l=none→Q (.ref l) (upd H l (.tup ys)))∨(SqT X.K H p ys∧Q (.ref p) H))):=by
 intro pins s σ H xs us Q I r h
 obtain⟨p,ys,rfl,h⟩:=h
 obtain⟨u,rfl,rx⟩:=jmi r
 cases rx
 rcases h with ⟨hq,q⟩|⟨hq,q⟩
 ·obtain⟨its,r',pl,hz⟩:=I.list hq
  have hlen:=r'.length
  refine call_tuple_list pl.isList (fun h' kp=>?_) (by simp only[List.size_toArray]<;>omega)
  have I1:Inv X pins σ H { s with heap:=h' }:=I.kept (t':=s.toks) kp
  have I2:Inv X pins σ (upd H h'.objs.size (.tup ys)) { s with heap:=h'.push { cls:=.type "tuple",data:=.seq its.toArray } } :=
   I1.laid (t':=s.toks) (fun b o e=>Heap.get?_push_of_some _ e) (Nat.le_refl _) (show ObjOk X.prog X.w _ _ _ (.tup ys) from ⟨hz,its,r',IsTup.new _ _⟩)
  exact⟨.ref h'.objs.size,_,I2,rfl,q _ (I1.hok.fresh (Nat.le_refl _))⟩
 ·obtain⟨its,r',pl,hz⟩:=I.tuple hq
  exact call_tuple_same pl ⟨.ref p,H,I,rfl,q⟩
noncomputable def tyV(K:PySem.W.Frag)(T:String)(x:V)(H:Hp):Prop:=match x with
 | .str _=>T="str"
 | .int _=>T="int"
 | .ref p=>(T="list"∧∃ xs,SqL K H p xs)∨(T="tuple"∧∃ o,K.lookup p=some o∧o.cls=.type "tuple"∧o.dict=none) ∨
   (T="dict"∧((∃ kvs,H p=some (.dK kvs))∨∃ kvs,H p=some (.dT kvs)))∨(T="set"∧∃ S n,H p=some (.set S n))
 | _=>False
theorem juw{pins:List (Addr×Obj)}{σ:St}{H:Hp}{s:Shared}{T:String}{x:V}{v:Value}(I:Inv X pins σ H s)(r:RelV x v)(ty:tyV X.K T x H) :
  s.TypeIs v T∧∀ a,v=.ref a→∃ ob,s.heap.get? a=some ob∧ob.dict=none:=by
 cases x with
 | str z =>
  obtain⟨t,rfl⟩:=r
  cases (show T="str" from ty)
  exact⟨typeIs_str s z t,fun _ e=>nomatch e⟩
 | int i =>
  obtain⟨t,rfl⟩:=r
  cases (show T="int" from ty)
  exact⟨typeIs_int s i t,fun _ e=>nomatch e⟩
 | ref p =>
  cases r
  rcases ty with ⟨rfl,xs,hq⟩|⟨rfl,o,hk,hc,hd⟩|⟨rfl,hk⟩|⟨rfl,S,n,hk⟩
  ·obtain⟨its,_,pl,_⟩:=I.list hq
   refine⟨pl.isList.typeIs,fun a e=>?_⟩
   cases e
   obtain⟨o,n,e,c,hd,_⟩:=pl
   exact⟨o,e,hd⟩
  ·refine⟨⟨o,I.kIn p o hk,hc⟩,fun a e=>?_⟩
   cases e
   exact⟨o,I.kIn _ o hk,hd⟩
  ·have z:∃ o,s.heap.get? p=some o∧o.ExactDict:=by
    rcases hk with ⟨kvs,hk⟩|⟨kvs,hk⟩
    ·obtain⟨_,_,_,_,o,_,_,e,ex,_⟩:=I.hok p _ hk
     exact⟨o,e,ex⟩
    ·obtain⟨_,_,_,_,o,_,_,e,ex,_⟩:=I.hok p _ hk
     exact⟨o,e,ex⟩
   obtain⟨o,e,ex⟩:=z
   refine⟨⟨o,e,ex.1⟩,fun a e2=>?_⟩
   cases e2
   exact⟨o,e,ex.2.1⟩
  ·obtain⟨o,_,_,_,e,ex,_⟩:=I.hok p _ hk
   refine⟨⟨o,e,ex.1⟩,fun a e2=>?_⟩
   cases e2
   exact⟨o,e,ex.2.1⟩
 | _=>exact False.elim ty
noncomputable def tBM0(K:PySem.W.Frag)(T:String)(r:V→List V→Hp→VK→Prop)(to:TE):TE:=fun σ H Q=>to σ H fun x H1=>tyV K T x H1∧r x [] H1 Q
noncomputable def tBM(K:PySem.W.Frag)(T:String)(r:V→List V→Hp→VK→Prop)(to:TE)(t:TA):TE:=fun σ H Q=>to σ H fun x H1=>tyV K T x H1∧t σ H1 fun xs H2=>r x xs H2 Q
variable {o e:Expr}{es:List Expr}{to:TE}{t:TA}{name:Str}{apos cpos:Pos}{T id:String}{r:V→List V→Hp→VK→Prop}
theorem jzr(pa:PlainAttrs T)(slot:Slot T name id)(hty:typeOf (.builtin id)=pure (.type "method_descriptor"))(hm:MtR X id r)(ho:PE X o to)
  (hbase:autoParam (attributeBase o name X.env (eval o X.env)=eval o X.env) zau2._auto_1) (hline:autoParam ((apos.endLine == cpos.line)=true) zau2._auto_1):PE X (.Call (.Attribute o name apos) [] [] cpos) (tBM0 X.K T r to):=by
 intro pins s σ H Q I h
 refine wpAny_Call_method0_late hbase hline (thn (ho pins s σ H _ I h) fun v s1 hzz=>?_)
 obtain⟨x,H1,I1,r1,ty,q1⟩:=hzz
 obtain⟨h1,h2⟩:=juw I1 r1 ty
 exact⟨T,id,pa,slot,hty,h1,h2,Calls.callWith_builtin rfl (PySem.evalArgs_none (hm pins s1 σ H1 x [] v [] Q I1 r1 .nil q1))⟩
theorem jzq(pa:PlainAttrs T)(slot:Slot T name id)(hty:typeOf (.builtin id)=pure (.type "method_descriptor"))(hm:MtR X id r)(ho:PE X o to)(ha:PA X (e::es) t)
  (hbase:autoParam (attributeBase o name X.env (eval o X.env)=eval o X.env) zau2._auto_1)
  (hfew:((backTo cpos (starEach (e::es) X.env)).all (fun x=>!x.1)&&(backToKw cpos (keywordEach [] X.env)).all (fun x=>x.1.isSome)
   && decide ((e::es).length+([]:List Keyword).length+(if ([]:List Keyword).isEmpty then 0 else 1)<30))=true:=by rfl)
  (hline:autoParam ((apos.endLine == cpos.line)=true) zau2._auto_1) (hs:autoParam (starEach (e::es) X.env=(false,eval e X.env)::starEach es X.env) zau2._auto_1) (hplain:autoParam ((backTo cpos (starEach es X.env)).any (·.1)=false) zau2._auto_1) :
  PE X (.Call (.Attribute o name apos) (e::es) [] cpos) (tBM X.K T r to t):=by
 intro pins s σ H Q I h
 refine wpAny_Call_method_late hbase hfew hline rfl (thn (ho pins s σ H _ I h) fun v s1 hzz=>?_)
 obtain⟨x,H1,I1,r1,ty,q1⟩:=hzz
 obtain⟨h1,h2⟩:=juw I1 r1 ty
 refine⟨T,id,pa,slot,hty,h1,h2,?_⟩
 have hA:=ha cpos pins s1 σ H1 _ I1 q1
 rw[hs] at hA ⊢
 refine Calls.callWith_builtin (by show (false || (backTo cpos (starEach es X.env)).any (·.1))=false;rw[hplain]<;>rfl) (Calls.evalArgs_plain ?_)
 exact thn hA fun us s2 ⟨vs,H2,I2,r2,q2⟩=>hm pins s2 σ H2 x vs v us Q I2 r1 r2 q2
end
noncomputable def MtM(X:Cx)(id:String)(r:V→List V→Hp→VK→Prop):Prop :=
 ∀ (pins:List (Addr×Obj)) (s:Shared) (σ:St) (H:Hp) (x:V) (xs:List V) (v:Value) (us:List Value) (Q:VK),Inv X pins σ H s→RelV x v→Vals xs us→r x xs H Q →
  wpAny (model X.prog X.w) X.A (call (.builtin id) (v::us)) (EP X pins σ Q) X.xe s
theorem Vals.one:∀ {x:V} {us:List Value},Vals [x] us→∃ u,us=[u]∧RelV x u
 | _,_,.cons r .nil=>⟨_,rfl,r⟩
theorem Vals.two:∀ {x y:V} {us:List Value},Vals [x,y] us→∃ u v,us=[u,v]∧RelV x u∧RelV y v
 | _,_,_,.cons r (.cons q .nil)=>⟨_,_,rfl,r,q⟩
theorem Vals.zero:∀ {us:List Value},Vals [] us→us=[]
 | _,.nil=>rfl
theorem Vals.rep{xs:List V}{us:List Value}(h:Vals xs us):∀ k:Nat,Vals (List.replicate k xs).flatten (List.replicate k us).flatten
 | 0=>.nil
 | k+1=>by
  rw[List.replicate_succ,List.replicate_succ,List.flatten_cons,List.flatten_cons]
  exact Vals.append h (Vals.rep h k)
theorem jg7(its:List Value):∀ (k:Nat) (acc:List Value),
  List.foldl (fun x1 x2=>x1++x2) acc.toArray (List.replicate k its.toArray)=(acc++(List.replicate k its).flatten).toArray
 | 0,acc=>by simp
 | k+1,acc=>by
  have e:acc.toArray++its.toArray=(acc++its).toArray:=by simp
  have e2:(acc++its)++(List.replicate k its).flatten=acc++(List.replicate (k+1) its).flatten:=by
   rw[List.replicate_succ,List.flatten_cons,List.append_assoc]
  rw[← e2,← jg7 its k (acc++its),← e,List.replicate_succ,List.foldl_cons]
section
variable {X:Cx}{pins:List (Addr×Obj)}{σ:St}{H:Hp}{s:Shared}{l b:Addr}{xs ys zs:List V}
theorem Inv.lset{its its':List Value}{n:Nat}{f:Array Value→Array Value}{t':Nat}(I:Inv X pins σ H s)(hH:H l=some (.lst xs))
  (e:s.heap.get? l=some { cls:=.type "list",data:=.seq its.toArray n }) (hf:f its.toArray=its'.toArray) (hv:Vals ys its') (hz:ys.length≤sizeLine) :
  Inv X pins σ (upd H l (.lst ys)) { s with heap:=s.heap.update l (Obj.mapSeq f),toks:=t' }:=by
 have q:=PySem.IsL.update e f
 rw[hf] at q
 refine I.write (x:=l) (e:=l) (by rw[hH];exact trivial) (.inl rfl) (fun b' u hb hu=>(Heap.get?_update_other s.heap (Obj.mapSeq f) (Ne.symm hb)).trans hu) ⟨_,q⟩ ?_
 exact⟨hz,its',_,hv,q⟩
theorem Inv.lnew{its:List Value}{t':Nat}(I:Inv X pins σ H s)(hv:Vals ys its)(hz:ys.length≤sizeLine) :
  Inv X pins σ (upd H s.heap.objs.size (.lst ys)) { s with heap:=s.heap.push { cls:=.type "list",data:=.seq its.toArray },toks:=t' } :=
 I.laid (fun _ _ q=>Heap.get?_push_of_some _ q) (Nat.le_refl _) ⟨hz,its,0,hv,Heap.get?_push_size _ rfl⟩
theorem Inv.fresh(I:Inv X pins σ H s):H s.heap.objs.size=none:=I.hok.fresh (Nat.le_refl _)
theorem Inv.lstM(I:Inv X pins σ H s)(hH:H l=some (.lst xs)):xs.length≤sizeLine∧∃ (its:List Value) (n:Nat),Vals xs its∧xs.length=its.length∧s.heap.get? l=some { cls:=.type "list",data:=.seq its.toArray n }:=by
 obtain⟨z,its,n,r,e⟩:=I.hok l _ hH
 exact⟨z,its,n,r,r.length,e⟩
theorem js7{n:Nat}(h:n≤sizeLine):Builtin.List.listTooLong n=false:=by
 unfold Builtin.List.listTooLong
 exact decide_eq_false (by omega)
end
section
variable {X:Cx}
noncomputable def jwx:V→List V→Hp→VK→Prop:=fun x vs H Q=>∃ l xs y,x=.ref l∧vs=[y]∧H l=some (.lst xs)∧xs.length<sizeLine∧Q .non (upd H l (.lst (xs++[y])))
theorem jfo:MtM X "list.append" jwx:=by
 intro pins s σ H x vs v us Q I rx rv h
 obtain⟨l,xs,y,rfl,rfl,hH,hz,q⟩:=h
 cases rx
 obtain⟨u,rfl,ru⟩:=rv.one
 obtain⟨z,its,n,r,hl,e⟩:=I.lstM hH
 refine call_meets F.slot_list_append ⟨_,e,rfl⟩ F.entry_list_append (F.args_list_append_2 _ _) (PySem.list_append l its.toArray n u (by rw[List.size_toArray];omega)) ⟨e,?_⟩
 refine⟨.non,_,I.lset (its':=its++[u]) hH e (by simp) (r.append (.cons ru .nil)) ?_,rfl,q⟩
 rw[List.length_append,List.length_singleton]
 omega
noncomputable def jz5:V→List V→Hp→VK→Prop:=fun x vs H Q=>∃ l xs,x=.ref l∧vs=[]∧H l=some (.lst xs)∧Q .non (upd H l (.lst []))
theorem js3:MtM X "list.clear" jz5:=by
 intro pins s σ H x vs v us Q I rx rv h
 obtain⟨l,xs,rfl,rfl,hH,q⟩:=h
 cases rx
 have hus:=rv.zero
 subst hus
 obtain⟨z,its,n,r,hl,e⟩:=I.lstM hH
 refine call_meets F.slot_list_clear ⟨_,e,rfl⟩ F.entry_list_clear (F.args_list_clear_1 _) (AutoSeq1.list_clear_list_0 l its.toArray n (by rw[List.size_toArray];omega)) ⟨e,?_⟩
 exact⟨.non,_,I.lset (its':=[]) (ys:=[]) hH e rfl .nil (Nat.zero_le _),rfl,q⟩
noncomputable def rRep:R2:=fun x y H Q=>∃ l k xs,x=.ref l∧y=.int k∧H l=some (.lst xs)∧-(2 ^ 63)≤k∧k<2 ^ 63∧xs.length*k.toNat≤sizeLine ∧
 ∀ p,H p=none→Q (.ref p) (upd H p (.lst (List.replicate k.toNat xs).flatten))
theorem jpz{α:Type}(xs:List α)(k:Nat):(List.replicate k xs).flatten.length=k*xs.length:=by
 induction k with
 | zero=>simp
 | succ k ih=>rw[List.replicate_succ,List.flatten_cons,List.length_append,ih,Nat.succ_mul,Nat.add_comm]
theorem jzn:OpR X (binaryOp .Mult) rRep:=by
 intro pins s σ H x y v u Q I rx ry h
 obtain⟨l,k,xs,rfl,rfl,hH,h1,h2,hz,q⟩:=h
 cases rx
 obtain⟨t,rfl⟩:=ry
 obtain⟨z,its,n,r,hl,e⟩:=I.lstM hH
 have hlen:its.toArray.size*k.toNat≤sizeLine:=by rw[List.size_toArray,← hl];exact hz
 have hcap:¬ its.toArray.size*k.toNat > (2 ^ 63-1) / 8:=by
  have:(sizeLine:Nat)≤(2 ^ 63-1) / 8:=by decide
  omega
 have hfit:¬ (!Builtin.List.listFitsIndex k)=true:=by
  rw[fitsIndex_both h1 h2]
  exact Bool.false_ne_true
 have hlong:¬ Builtin.List.listTooLong (its.toArray.size*k.toNat)=true:=by
  rw[js7 hlen]
  exact Bool.false_ne_true
 have hnew:List.foldl (fun x1 x2=>x1++x2) #[] (List.replicate (if its.toArray.isEmpty=true then 0 else k.toNat) its.toArray)=(List.replicate k.toNat its).flatten.toArray:=by
  have f0:∀ m:Nat,List.foldl (fun x1 x2=>x1++x2) #[] (List.replicate m its.toArray)=(List.replicate m its).flatten.toArray:=fun m=>by
   have:=jg7 its m []
   rw[List.nil_append] at this
   exact this
  rw[f0]
  cases its with
  | nil=>simp
  | cons a r'=>rw[if_neg (by simp)]
 refine wpAny_binaryOp_repeat_ref (T:="list") (U:="int") (by decide) ⟨_,e,rfl⟩ (fun s'=>typeIs_int s' k t) noFill_list_mul F.fills_int_mul F.slot_int_rmul repeat_list F.slot_int_index.lookup
  (call_meets F.slot_int_rmul (typeIs_int s k t) F.entry_int_rmul (F.args_int_rmul_2 _ _) (int___rmul___int_list k t l its.toArray n)
   ⟨e,rfl,⟨_,e,rfl⟩,call_meets F.slot_list_mul ⟨_,e,rfl⟩ F.entry_list_mul (F.args_list_mul_2 _ _) (AutoListH.list___mul___list_int_3 l its.toArray n k t hfit hcap hlong) ⟨e,?_⟩⟩)
 rw[hnew]
 exact⟨.ref _,_,I.lnew (t':=s.toks) (r.rep k.toNat) (by rw[jpz,Nat.mul_comm];exact hz),rfl,q _ I.fresh⟩
end
section
variable {prog:Program}{w:World}{A:Around}{E:Value→Shared→Prop}{s:Shared}
end
section
variable {X:Cx}
end
end L2
namespace Att
open PySem PySem.W PySem.Calls PyProof.Rows
theorem jhb{P:Params}{h:Heap}:∀ (ns:List Int) (vs:List Value),WellAll P h vs (ns.map WData.int)→IntsAre vs ns:=by
 intro ns
 induction ns with
 | nil =>
  intro vs w
  rw[List.map_nil] at w
  cases w
  exact .nil
 | cons n ns ih =>
  intro vs w
  rw[List.map_cons] at w
  cases w with
  | cons a b =>
   cases a
   exact .cons _ _ (ih _ b)
theorem jrd{l:OpenLaw}{n:Nat}(hn:l.most=some n){P:Params}{h:Heap}{args:List WData}{vals:List Value}
  (hpre:l.row.toRowW.claim.pre args=true) (hwl:WellAll P h vals args) :
  ∃ a vs ns,vals=[Value.ref a]∧args=[WData.list (ns.map WData.int)]∧h.get? a=some { cls:=.type "list",data:=.seq vs.toArray }∧IntsAre vs ns∧ns.length≤n:=by
 have hsh:WShape.hasAll [] args [.list .int]=true:=(pre_splitW hpre).1
 have hc:l.pre.holds [] { args:=args }=true:=(pre_splitW hpre).2
 obtain⟨d,r,rfl,h1,h2⟩:=hasAllW_cons hsh
 obtain rfl:=hasAllW_nil h2
 obtain⟨xs,rfl,h3⟩:=hasW_list h1
 obtain⟨ns,rfl⟩:=items_int h3
 have hlen:ns.length≤n:=by
  unfold OpenLaw.pre at hc
  have h4:(WTm.not (.lt (.lit (.int (n:Int))) (.len (.arg 0)))).holds [] { args:=[.list (ns.map .int)] }=true:=by
   have h4:=(holds_andW hc).1
   rw[hn] at h4
   exact h4
  have h5:=condW_of h4 (w_not (w_lt w_lit (w_len_list (w_arg rfl))))
  rw[List.length_map] at h5
  refine Nat.le_of_not_lt fun q=>?_
  have q':(n:Int)<((ns.length:Nat):Int):=by omega
  first
   | (rw[decide_eq_true q'] at h5;exact absurd h5 (by decide))
   | (simp at h5;omega)
 cases hwl with
 | cons w1 w2 =>
  cases w2
  cases w1 with
  | list ho hall=>exact⟨_,_,ns,rfl,rfl,ho,jhb ns _ hall,hlen⟩
theorem jqz(l:OpenLaw)(args:List WData):l.row.toRowW.claim.post args (.bool true) args=true :=
 postW_of (r:=l.row.toRowW) (X:=(true == true))
  (show WShape.has [] (.bool true) .bool=true by first|rfl|decide|simp[WShape.has,WShape.arms,WShape.armsAll])
  (show (WTm.eq .res (.lit (.bool true))).value [] { args:=args,res:=some (.bool true),after:=args }=some (.bool (true == true)) from w_eq_bool (w_res rfl) w_lit) rfl
theorem attach_call{l:OpenLaw}{n:Nat}{q:Program}{loose:List Str}{XP:(Str→Option Value)→Heap→Prop}{YP:World→Heap→Prop}{d:DefRec}
  (hn:l.most=some n) (hdf:d.params.defaults=[])
  (call:∀ (w:World) (s₀ s₁:Shared) (mg mb:Str→Option Value) (fa:Addr) (o:Obj) (pm cd doc:Value) (a:Addr) (vs:List Value) (ns:List Int),
   Ground q loose [] XP w s₀ mg mb s₁.heap→YP w s₁.heap →
   s₁.heap.get? fa=some o→o.data=.func (docDef d.name d.params d.body d.scope pm cd doc)→s₁.heap.CodeRec cd d.name→mg d.name=some (.ref fa) →
   s₁.heap.get? a=some { cls:=.type "list",data:=.seq vs.toArray }→IntsAre vs ns→ns.length≤n→s₁.gens=#[] →
   codeAny (model l.prog w) callerA (.call (.ref fa) ⟨[.ref a],[]⟩) (fun r s'=>r=.ok (.ret (.bool true))∧OldK s₁.heap s'.heap∧s'.os=s₁.os∧AllBare s'.gens) s₁) :
  WalkO q loose XP YP l.row.toRowW d [] (fun f vs=>PySem.call f vs):=by
 intro w s₀ s₁ mg mb G Y fa o pm cd doc dV kV ho hd hcd hD hmg hg args vals as hpre hlay hrd hwl hlo
 obtain rfl:dV=.none:=Dflts.none hD hdf
 obtain rfl:kV=.none:=Dflts.noKw hD
 obtain⟨a,vs,ns,rfl,rfl,hobj,hints,hlen⟩:=jrd hn hpre hwl
 refine enter_call (codeAny_mono (call w s₀ s₁ mg mb fa o pm cd doc a vs ns G Y ho (fd_plain hd) hcd hmg hobj hints hlen hg) fun r s' hq=>?_)
 obtain⟨rfl,h2,h3,h4⟩:=hq
 exact⟨.inl ⟨.bool true,.bool true,[],rfl,fun _=>rfl,.bool true,jqz l _,fun _=>⟨List.Pairwise.nil,fun _ hm=>(nomatch hm)⟩⟩,h2,h3,h4⟩
section
variable {prog:Program}{w:World}{A:Around}{E:Value→Shared→Prop}{s:Shared}{K:Frag}
noncomputable def jim(h:Heap):Heap:={ h with objs:=#[] }
theorem jf0(h:Heap)(b:Addr):(jim h).get? b=none:=by
 cases e:(jim h).get? b with
 | none=>rfl
 | some o=>exact absurd (Heap.lt_size e) (Nat.not_lt_zero _)
noncomputable def jii(h:Heap)(L d:Addr):List (Addr×Obj):=(List.range h.objs.size).filterMap fun a=>if a=L∨a=d then none else (h.get? a).map fun o=>(a,o)
theorem mem_ledger{h:Heap}{L d a:Addr}{o:Obj}:(a,o)∈jii h L d↔a≠L∧a≠d∧h.get? a=some o:=by
 unfold jii
 rw[List.mem_filterMap]
 constructor
 ·rintro⟨b,_,e⟩
  split at e
  ·cases e
  ·rename_i hb
   obtain⟨o',ho,e'⟩:=Option.map_eq_some_iff.mp e
   cases e'
   exact⟨fun q=>hb (.inl q),fun q=>hb (.inr q),ho⟩
 ·rintro⟨n1,n2,ho⟩
  refine⟨a,List.mem_range.mpr (Heap.lt_size ho),?_⟩
  rw[if_neg (show ¬ (a=L∨a=d) from fun q=>q.elim n1 n2),ho]<;>rfl
end
end Att
namespace L2
open PySem PySem.Spec PyProof.Rows
theorem jld:∀ {vs:List Value} {ns:List Int},IntsAre vs ns→Vals (ns.map V.int) vs
 | _,_,.nil=>.nil
 | _,_,.cons n t h=>.cons ⟨t,rfl⟩ (jld h)
noncomputable def Only(H:Hp):Prop:=∀ b,H b=none∨∃ o xs,H b=some (.frz o (.lst xs))
theorem jso{P:Program}{w:World}{K:PySem.W.Frag}{mg mb:Str→Option Value}{CX:CXT}{k:Nat}{fa a:Addr}{fd:FuncData}{x:Str}{sp:Sp}{s₁:Shared}{vs:List Value}{ns:List Int}
  (KX:K.In s₁.heap) (hns:s₁.heap.Ns mainGlobals mg) (hb:s₁.heap.Ns builtinsNs mb) (hbb:∀ x:Str,x≠"__name__"→mb x=bootBuiltins x) (hlim:s₁.heap.NoLimit) (hg:s₁.gens=#[])
  (ha:s₁.heap.get? a=some { cls:=.type "list",data:=.seq vs.toArray }) (hi:IntsAre vs ns) (hl:ns.length≤sizeLine) (hr:Room k callerA)
  (F:∀ base:Heap,K.In base→base.Ns mainGlobals mg→FnOk P w K mg base CX k fa fd [x] sp) (hbind:∀ (s:Shared) (u:Value),BindsTo s fd ⟨[u],[]⟩ [(x,u)])
  (hsp:∀ H:Hp,Only H→SqL K H a (ns.map V.int)→sp [.ref a] H (fun v _=>v=.bl true) fun _ _ _=>False)
  (hCX:∀ H e s',CX [] H s₁ (fun _ _ _=>False) e s'→False) :
  codeAny (model P w) callerA (.call (.ref fa) ⟨[.ref a],[]⟩) (fun r s'=>r=.ok (.ret (.bool true))∧OldK s₁.heap s'.heap∧s'.os=s₁.os∧AllBare s'.gens) s₁:=by
 have rv:=jld hi
 have lenV:=hi.length
 have core:∀ H:Hp,Only H→SqL K H a (ns.map V.int)→HOk P w H s₁.heap→(∀ b,H b≠none→b=a)→(H a≠none→K.lookup a=none) →
   codeAny (model P w) callerA (.call (.ref fa) ⟨[.ref a],[]⟩) (fun r s'=>r=.ok (.ret (.bool true))∧OldK s₁.heap s'.heap∧s'.os=s₁.os∧AllBare s'.gens) s₁:=by
  intro H hO hS hok hA hK
  have base_of:∀ {b:Addr} {o:Obj},s₁.heap.get? b=some o→H b=none→(hidT s₁.heap H).get? b=some o:=fun e n=>jsh e n
  have noA:∀ {b:Addr} {o:Obj} {es:Array DictEntry} {ep:Nat},s₁.heap.get? b=some o→o.data=.dict es ep→H b=none:=fun {b o es ep} e d=>by
   cases q:H b with
   | none=>rfl
   | some u =>
    have e':b=a:=hA b (by rw[q];simp)
    subst e'
    rw[ha] at e;cases e
    have d':Data.seq vs.toArray _=Data.dict es ep:=d
    cases d'
  have nsK:∀ {b:Addr} {m:Str→Option Value},s₁.heap.Ns b m→(hidT s₁.heap H).Ns b m:=fun {b m} ⟨o,es,ep,e,d,r⟩=>⟨o,es,ep,base_of e (noA e d),d,r⟩
  have hKb:K.In (hidT s₁.heap H):=fun b o e=>base_of (KX b o e) (by
   cases q:H b with
   | none=>rfl
   | some u =>
    have e':b=a:=hA b (by rw[q];simp)
    subst e'
    rw[hK (by rw[q];simp)] at e;cases e)
  have hM:Mod K mg (hidT s₁.heap H):=⟨hKb,nsK hns,⟨mb,nsK hb,hbb⟩,let ⟨mc,h1,h2⟩:=hlim;⟨mc,nsK h1,h2⟩⟩
  have e0:Env0 P w K mg (hidT s₁.heap H) callerA [] s₁ H:=⟨rfl,hM,fun b o e=>jwf e,Nat.le_of_eq (jpo _ _),trivial,fun b hb=>absurd (show b∈([]:List Addr) from hb) (by simp),hok,.of_eq hg⟩
  refine codeAny_mono ((F _ hKb (nsK hns)).run callerA [] s₁ H ⟨[.ref a],[]⟩ [.ref a] [.ref a] _ _ hr e0 (hbind s₁ (.ref a)) (.cons rfl .nil) (hsp H hO hS)) fun r s' h=>?_
  cases r with
  | error e=>exact (hCX H e s' h).elim
  | ok fl =>
   cases fl with
   | next=>exact False.elim h
   | brk=>exact False.elim h
   | cont=>exact False.elim h
   | ret u =>
    obtain⟨v,H',os,bare,un,hok',r',q⟩:=h
    have q':v=.bl true:=q
    subst q'
    obtain rfl:u=Value.bool true:=r'
    refine⟨rfl,OldK.of_keep fun b o e=>?_,os,bare⟩
    cases q:H b with
    | none=>exact un.keep b o e q (by intro z;exact absurd (show b∈([]:List Addr) from z) (by simp)) (by simp)
    | some u =>
     rcases hO b with z|⟨ob,xs,z⟩
     ·rw[q] at z;cases z
     ·have z2:=un.frzs b ob _ z
      obtain⟨e1,_⟩:=hok b _ z
      obtain⟨e2,_⟩:=hok' b _ z2
      rw[e] at e1;cases e1
      exact e2
 cases hk:K.lookup a with
 | some o =>
  have e:=KX a o hk
  rw[ha] at e
  cases e
  refine core (fun _=>none) (fun _=>.inl rfl) (.inr ⟨_,vs.toArray,_,hk,rfl,rfl,rfl,by rw[List.size_toArray,lenV];exact hl,by simpa using rv⟩) (fun b u z=>by have z':(none:Option HO)=some u:=z;cases z') (fun b z=>absurd rfl z) fun z=>absurd rfl z
 | none =>
  refine core (fun b=>if b=a then some (.frz { cls:=.type "list",data:=.seq vs.toArray } (.lst (ns.map V.int))) else none) (fun b=>?_) (.inl (.inr ⟨{ cls:=.type "list",data:=.seq vs.toArray },if_pos rfl⟩)) (fun b u z=>?_) (fun b z=>?_) fun _=>hk
  ·by_cases hb:b=a
   ·exact .inr ⟨_,_,if_pos hb⟩
   ·exact .inl (if_neg hb)
  ·by_cases hb:b=a
   ·have z':=(if_pos hb).symm.trans z
    cases z'
    subst hb
    exact⟨ha,by rw[List.length_map];exact hl,vs,_,rv,ha⟩
   ·have z':=(if_neg hb).symm.trans z
    cases z'
  ·by_cases hb:b=a
   ·exact hb
   ·exact absurd (if_neg hb) z
theorem walk_of{l:PySem.W.OpenLaw}{n k:Nat}{q:Program}{loose:List Str}{XP:(Str→Option Value)→Heap→Prop}{YP:World→Heap→Prop}{d:DefRec}{K:Params→PySem.W.Frag}{CX:World→CXT}{sp:World→Sp}{x:Str}
  (hn:l.most=some n) (hn2:n≤sizeLine) (hdf:d.params.defaults=[]) (hr:Room k callerA)
  (hY:∀ (w:World) (h:Heap),YP w h→(K w.params).In h)
  (F:∀ (w:World) (mg:Str→Option Value) (fa:Addr) (h:Heap),(K w.params).In h→h.Ns mainGlobals mg→mg d.name=some (.ref fa) →
   ∃ fd:FuncData,(∀ (s:Shared) (u:Value),BindsTo s fd ⟨[u],[]⟩ [(x,u)]) ∧
    ∀ base:Heap,(K w.params).In base→base.Ns mainGlobals mg→FnOk l.prog w (K w.params) mg base (CX w) k fa fd [x] (sp w))
  (hsp:∀ (w:World) (H:Hp) (a:Addr) (ns:List Int),ns.length≤n→Only H→SqL (K w.params) H a (ns.map V.int)→sp w [.ref a] H (fun v _=>v=.bl true) fun _ _ _=>False)
  (hCX:∀ (w:World) (H:Hp) (s:Shared) (e:Value) (s':Shared),CX w [] H s (fun _ _ _=>False) e s'→False) :
  PySem.W.WalkO q loose XP YP l.row.toRowW d [] (fun f vs=>PySem.call f vs):=by
 refine Att.attach_call hn hdf fun w s₀ s₁ mg mb fa o pm cd doc a vs ns G Y ho hd hcd hmg hobj hints hlen hg=>?_
 have KX:=hY w _ Y
 obtain⟨fd,hb,hF⟩:=F w mg fa _ KX G.T.g hmg
 exact jso KX G.T.g G.T.b G.T.builtins G.T.nolimit hg hobj hints (Nat.le_trans hlen hn2) hr hF hb (fun H hO hS=>hsp w H a ns hlen hO hS) fun H e s'=>hCX w H s₁ e s'
noncomputable def jay(s:Stmt):Arguments:=match s with
 | .FunctionDef _ a _ _ _ _ _ _ _ _=>a
 | _=>{ posonlyargs:=[],args:=[],vararg:=none,kwonlyargs:=[],kw_defaults:=[],kwarg:=none,defaults:=[] }
noncomputable def jak(s:Stmt):List Stmt:=match s with
 | .FunctionDef _ _ b _ _ _ _ _ _ _=>b
 | _=>[]
noncomputable def jab(s:Stmt):Scope:=match s with
 | .FunctionDef _ _ _ _ _ _ sc _ _ _=>sc
 | _=>{ kind:=.function,names:=[],isGenerator:=false,isCoroutine:=false }
noncomputable abbrev CX0:CXT:=fun _ _ _ _ _ _=>False
noncomputable abbrev E0:XK:=fun _ _ _=>False
structure Fun(K:PySem.W.Frag)(x qual:Str)(st:Stmt)(f:Addr)(fd:FuncData):Prop where
 ex:∃ (oc:Value) (od:Option Addr) (kV doc pm:Value) (an:Option Addr) (cdv ct:Value) (osl:Array (Option Value)),
  fd=PySem.W.fnOf x qual (jay st) (jak st) (jab st) .none kV doc pm an cdv ct∧K.lookup f=some ⟨oc,od,.func fd,osl⟩∧PySem.W.codeIn K cdv qual=true
 kp:PySem.W.keepIn K (.ref f)=true
section
variable {P:Program}{w:World}{K:PySem.W.Frag}{mg:Str→Option Value}{base:Heap}
theorem Fun.ok{x qual:Str}{st:Stmt}{f:Addr}{fd:FuncData}{N ps:List Str}{k:Nat}{sp:Sp}(F:Fun K x qual st f fd)(S:FnScope N ps (jab st))(len:∀ vs H Q E,sp vs H Q E→vs.length=ps.length)
  (hbody:∀ (cdv:Value) (A:Around) (outer:List Env) (s:Shared) (H:Hp) (vs:List V) (Q:VK) (E:XK),Room k (A.deeper (envOfC qual (jab st) s.heap.objs.size f cdv))→sp vs H Q E →
   ∃ t,PSs (cxOf CX0 P w K mg base N qual (jab st) f cdv A outer s H E).nox (jak st) t∧t { nx:=fun _ H'=>Q .non H',rt:=Q } (start N vs) H):FnOk P w K mg base CX0 (k+1) f fd ps sp:=by
 obtain⟨oc,od,kV,doc,pm,an,cdv,ct,osl,rfl,lk,hcd⟩:=F.ex
 refine jBp lk hcd S len fun A outer s H vs Q E hr hsp=>?_
 obtain⟨t,h,q⟩:=hbody cdv A outer s H vs Q E hr hsp
 exact⟨t,h.nox,q⟩
theorem Fun.binds{x qual:Str}{st:Stmt}{f:Addr}{fd:FuncData}{ps:List Str}(F:Fun K x qual st f fd)
  (h:∀ (kV doc pm:Value) (an:Option Addr) (cdv ct:Value) (us:List Value),us.length=ps.length→bindArgs (PySem.W.fnOf x qual (jay st) (jak st) (jab st) .none kV doc pm an cdv ct) ⟨us,[]⟩=pure (ps.zip us)):Binds K fd ps []:=by
 obtain⟨oc,od,kV,doc,pm,an,cdv,ct,osl,rfl,lk,hcd⟩:=F.ex
 exact .all (h kV doc pm an cdv ct)
theorem jpi{x qual:Str}{st:Stmt}{f:Addr}{oc:Value}{od an:Option Addr}{osl:Array (Option Value)}{kV doc pm cdv ct:Value}(l:K.lookup f=some ⟨oc,od,.func (PySem.W.fnOf x qual (jay st) (jak st) (jab st) .none kV doc pm an cdv ct),osl⟩)
  (c:PySem.W.codeIn K cdv qual=true) (k:PySem.W.keepIn K (.ref f)=true):Fun K x qual st f (PySem.W.fnOf x qual (jay st) (jak st) (jab st) .none kV doc pm an cdv ct):=⟨⟨oc,od,kV,doc,pm,an,cdv,ct,osl,rfl,l,c⟩,k⟩
end
section
variable {X:Cx}
end
theorem iteF{A B:Prop}(h:B):if false=true then A else B:=by
 rw[if_neg Bool.false_ne_true]
 exact h
theorem iteT{A B:Prop}(h:A):if true=true then A else B:=by
 rw[if_pos rfl]
 exact h
noncomputable def Same(H H':Hp):Prop:=∀ b o,H b=some o→H' b=some o
theorem Same.refl(H:Hp):Same H H:=fun _ _ h=>h
theorem Same.trans{H H1 H2:Hp}(a:Same H H1)(b:Same H1 H2):Same H H2:=fun c o h=>b c o (a c o h)
end L2
set_option maxHeartbeats 4000000
namespace L2
open PySem PySem.Spec PyProof.Rows
theorem ffk:(NameKind.free == NameKind.free)=true:=by decide
noncomputable def clOf(cells:List (Str×Addr)):List (Str×NameKind)→List (Str×Addr)→List (Str×Addr)
 | [],acc=>acc
 | (n,k)::r,acc=>clOf cells r (if k == .free then (n,(cells.lookup n).getD 0)::acc else acc)
theorem jo2{env:Env}:∀ (ns:List (Str×NameKind)) (acc:List (Str×Addr)),(∀ p∈ns,p.2=.free→∃ c,env.cells.lookup p.1=some c) →
  (forIn ns acc fun p cs=>(if p.2 == NameKind.free then (do let a ← cellOf env p.1;pure (ForInStep.yield ((p.1,a)::cs))) else pure (ForInStep.yield cs):Sem (ForInStep (List (Str×Addr)))))=pure (clOf env.cells ns acc)
 | [],acc,_=>by rw[List.forIn_nil];rfl
 | (n,k)::r,acc,h=>by
  rw[List.forIn_cons]
  by_cases hk:k=.free
  ·subst hk
   obtain⟨c,hc⟩:=h (n,.free) List.mem_cons_self rfl
   have e1:cellOf env n=pure c:=by unfold cellOf;rw[hc]
   show (do let a ← cellOf env n;pure (ForInStep.yield ((n,a)::acc)):Sem _) >>= _=_
   rw[e1]
   show (forIn r ((n,c)::acc) _:Sem _)=_
   rw[jo2 r _ fun p hp=>h p (List.mem_cons_of_mem _ hp)]
   show _=pure (clOf env.cells r (if NameKind.free == NameKind.free then _ else _))
   have hc':env.cells.lookup n=some c:=hc
   rw[if_pos ffk,hc']
   rfl
  ·have e2:(k == NameKind.free)=false:=by simpa using hk
   show (if (k == NameKind.free)=true then _ else _:Sem _) >>= _=_
   rw[if_neg (by rw[e2];decide)]
   show (forIn r acc _:Sem _)=_
   rw[jo2 r _ fun p hp=>h p (List.mem_cons_of_mem _ hp)]
   show _=pure (clOf env.cells r (if (k == NameKind.free)=true then _ else _))
   rw[if_neg (by rw[e2];decide)]
theorem jid{scope:Scope}{env:Env}(h:∀ p∈scope.names,p.2=.free→∃ c,env.cells.lookup p.1=some c):closureFor scope env=pure (clOf env.cells scope.names []):=by
 unfold closureFor
 have e:=jo2 (env:=env) scope.names [] h
 show (forIn scope.names ([]:List (Str×Addr)) _ >>= fun r=>pure r:Sem _)=_
 have e':(forIn scope.names ([]:List (Str×Addr)) fun (p:Str×NameKind) (cs:List (Str×Addr))=>(if p.2 == NameKind.free then (do let a ← cellOf env p.1;pure (ForInStep.yield ((p.1,a)::cs))) else pure (ForInStep.yield cs):Sem (ForInStep (List (Str×Addr))))) >>= (fun r=>(pure r:Sem _))=pure (clOf env.cells scope.names []):=by rw[e];rfl
 exact e'
theorem jmo{cells:List (Str×Addr)}{x:Str}{c:Addr}:∀ (ns:List (Str×NameKind)) (acc:List (Str×Addr)),(clOf cells ns acc).lookup x=some c→acc.lookup x=some c∨((x,NameKind.free)∈ns∧c=(cells.lookup x).getD 0)
 | [],acc,h=>.inl h
 | (n,k)::r,acc,h=>by
  rcases jmo r _ h with e|⟨e1,e2⟩
  ·by_cases hk:k=.free
   ·subst hk
    rw[if_pos ffk,List.lookup_cons] at e
    cases hx:x == n with
    | true =>
     rw[hx] at e
     have:x=n:=by simpa using hx
     subst this
     exact .inr ⟨List.mem_cons_self,(Option.some.inj e).symm⟩
    | false=>rw[hx] at e;exact .inl e
   ·rw[if_neg (by simpa using hk)] at e
    exact .inl e
  ·exact .inr ⟨List.mem_cons_of_mem _ e1,e2⟩
theorem jmn{cells:List (Str×Addr)}{x:Str}:∀ (ns:List (Str×NameKind)) (acc:List (Str×Addr)),acc.lookup x=some ((cells.lookup x).getD 0)→(clOf cells ns acc).lookup x=some ((cells.lookup x).getD 0)
 | [],acc,h=>h
 | (n,k)::r,acc,h=>by
  refine jmn r _ ?_
  by_cases hk:k=.free
  ·subst hk
   rw[if_pos ffk,List.lookup_cons]
   cases hx:x == n with
   | true =>
    have:x=n:=by simpa using hx
    subst this
    rfl
   | false=>exact h
  ·rw[if_neg (by simpa using hk)];exact h
theorem ji6{cells:List (Str×Addr)}{x:Str}:∀ (ns:List (Str×NameKind)) (acc:List (Str×Addr)),(x,NameKind.free)∈ns→(clOf cells ns acc).lookup x=some ((cells.lookup x).getD 0)
 | [],acc,h=>by cases h
 | (n,k)::r,acc,h=>by
  rcases List.mem_cons.mp h with e|e
  ·cases e
   refine jmn r _ ?_
   rw[if_pos ffk,List.lookup_cons]
   simp
  ·exact ji6 r _ e
noncomputable def jax(X:Cx)(scope:Scope)(N:List Str)(C:Addr)(s0:Shared)(H0:Hp)(ex:List Addr):Cx where
 prog:=X.prog
 w:=X.w
 K:=X.K
 mg:=X.mg
 base:=X.base
 A:=X.A
 N:=N
 s₀:=s0
 H₀:=H0
 env:=compEnvC scope (clOf X.env.cells scope.names []) C X.env
 outer:=X.stack
 stack:=X.stack
 ex:=ex
 fn:=fun _=>false
 calm:=X.calm
 pn:=[]
 xe:=fun _ _=>False
noncomputable def jt2(N:List Str)(out:List (Str×NameKind))(inn:List (Str×NameKind))(caps:List (Str×Nat)):Bool :=
 inn.all (fun p=>p.2 != .cell)&&inn.all (fun p=>p.2 != .local || inn.lookup p.1 == some .local) &&
 inn.all (fun p=>p.2 != .free || (out.lookup p.1 == some .cell || out.lookup p.1 == some .free)) &&
 caps.all (fun p=>N[p.2]? == some p.1&&inn.lookup p.1 == some .free)
structure CapsOk(X:Cx)(scope:Scope)(caps:List (Str×Nat)):Prop where
 kind:scope.kind=.function
 nocell:∀ x∈scope.names,x.2≠.cell
 loc:∀ x∈scope.names,x.2=.local→scope.names.lookup x.1=some .local
 fre:∀ p∈scope.names,p.2=.free→X.env.kindOf p.1=some .cell∨X.env.kindOf p.1=some .free
 cap:∀ p∈caps,X.N[p.2]? = some p.1∧scope.names.lookup p.1=some .free
theorem jgw{X:Cx}{scope osc:Scope}{N:List Str}{caps:List (Str×Nat)}(hN:X.N=N)(ho:X.env.scope=osc)(hk:scope.kind=.function)(h:jt2 N osc.names scope.names caps=true):CapsOk X scope caps:=by
 unfold jt2 at h
 simp only[Bool.and_eq_true,List.all_eq_true] at h
 obtain⟨⟨⟨h1,h2⟩,h3⟩,h4⟩:=h
 refine⟨hk,fun x hx=>by simpa using h1 x hx,fun x hx hl=>?_,fun p hp hf=>?_,fun p hp=>?_⟩
 ·have:=h2 x hx
  rw[hl] at this
  simpa using this
 ·have:=h3 p hp
  rw[hf] at this
  show X.env.scope.names.lookup p.1=_∨X.env.scope.names.lookup p.1=_
  rw[ho]
  simpa using this
 ·have:=h4 p hp
  rw[hN]
  simpa using this
noncomputable def jbn(own:Nat)(caps:List (Str×Nat))(σ:St):St:=List.replicate own none++caps.map fun p=>(σ[p.2]?).join
noncomputable def jrg(own:Nat)(caps:List (Str×Nat))(wi:TI)(g:TG)(tc:TT)(te:TE):TE:=fun σ H Q=>wi σ H fun J H1=>∀ D,H1 D=none →
 ∃ W:Nat→Nat→St→Hp→Prop,(∃ m,W 0 m (jbn own caps σ) (upd H1 D (.lst [])))∧∀ i m σ' H',W i m σ' H' →
  (J.stop i H'∧Q (.ref D) H')∨(J.go i H'∧∃ N:St→Hp→Prop,(∀ σ2 H2,N σ2 H2→∃ m',m'<m∧W (i+1) m' σ2 H2) ∧
   ∀ x H2,J.yld i H' x H2→g x σ' H2 fun σ3 H3=>tc σ3 H3 fun b H4=>if b=true then te σ3 H4 fun v H5=>∃ ys,H5 D=some (.lst ys)∧ys.length<sizeLine∧N σ3 (upd H5 D (.lst (ys++[v]))) else N σ3 H4)
theorem jep{scope:Scope}{env:Env}{x:Str}{k:NameKind}:∀ {ns:List (Str×NameKind)},(ns.map fun (n,k)=>if (k == NameKind.free&&env.scope.kind == .function&&env.kindOf n == some .cell) then (n,NameKind.cell) else (n,k)).lookup x=some k →
  ∃ k',ns.lookup x=some k'∧(k=k'∨(k'=.free∧k=.cell))
 | [],h=>by simp at h
 | (n,k0)::r,h=>by
  rw[List.map_cons] at h
  by_cases hc:(k0 == NameKind.free&&env.scope.kind == .function&&env.kindOf n == some .cell)=true
  ·simp only[if_pos hc,List.lookup_cons] at h
   cases hx:x == n with
   | true =>
    rw[hx] at h
    refine⟨k0,by simp[List.lookup_cons,hx],.inr ⟨?_,(Option.some.inj h).symm⟩⟩
    simp only[Bool.and_eq_true] at hc
    simpa using hc.1.1
   | false =>
    rw[hx] at h
    obtain⟨k',e,q⟩:=jep (scope:=scope) h
    exact⟨k',by simp only[List.lookup_cons,hx];exact e,q⟩
  ·simp only[if_neg hc,List.lookup_cons] at h
   cases hx:x == n with
   | true =>
    rw[hx] at h
    exact⟨k0,by simp[List.lookup_cons,hx],.inl (Option.some.inj h).symm⟩
   | false =>
    rw[hx] at h
    obtain⟨k',e,q⟩:=jep (scope:=scope) h
    exact⟨k',by simp only[List.lookup_cons,hx];exact e,q⟩
theorem jeo{env:Env}{x:Str}:∀ {ns:List (Str×NameKind)},ns.lookup x=some .free →
  (ns.map fun (n,k)=>if (k == NameKind.free&&env.scope.kind == .function&&env.kindOf n == some .cell) then (n,NameKind.cell) else (n,k)).lookup x=some .cell ∨
  (ns.map fun (n,k)=>if (k == NameKind.free&&env.scope.kind == .function&&env.kindOf n == some .cell) then (n,NameKind.cell) else (n,k)).lookup x=some .free
 | [],h=>by simp at h
 | (n,k0)::r,h=>by
  rw[List.map_cons]
  simp only[List.lookup_cons] at h
  by_cases hc:(k0 == NameKind.free&&env.scope.kind == .function&&env.kindOf n == some .cell)=true
  ·simp only[if_pos hc,List.lookup_cons]
   cases hx:x == n with
   | true=>exact .inl rfl
   | false=>rw[hx] at h;exact jeo h
  ·simp only[if_neg hc,List.lookup_cons]
   cases hx:x == n with
   | true=>rw[hx] at h;exact .inr h
   | false=>rw[hx] at h;exact jeo h
theorem jpp{own:Nat}{caps:List (Str×Nat)}{σ:St}{i:Nat}{v:V}(h:(jbn own caps σ)[i]? = some (some v)):∃ p,caps[i-own]? = some p∧own≤i∧σ[p.2]? = some (some v):=by
 unfold jbn at h
 by_cases hi:i<own
 ·rw[List.getElem?_append_left (by simpa using hi),List.getElem?_replicate,if_pos hi] at h
  cases h
 ·rw[List.getElem?_append_right (by simpa using hi),List.length_replicate,List.getElem?_map] at h
  cases e:caps[i-own]? with
  | none=>rw[e] at h;cases h
  | some p =>
   rw[e] at h
   refine⟨p,rfl,by omega,?_⟩
   have h':(σ[p.2]?).join=some v:=Option.some.inj h
   cases q:σ[p.2]? with
   | none=>rw[q] at h';cases h'
   | some o=>rw[q] at h';exact congrArg some h'
section
variable {X:Cx}{pins:List (Addr×Obj)}{σ:St}{H:Hp}{s:Shared}
theorem jmw{scope:Scope}{own:List Str}{caps:List (Str×Nat)}{h':Heap}{t':Nat}{fp:List Addr}(I:Inv X pins σ H s)(ck:CapsOk X scope caps)
  (hf:∀ b∈fp,FpOk X pins H b) (hb:∀ b∈fp,b<s.heap.objs.size) (ns:h'.Ns s.heap.objs.size fun x=>([]:List (Str×Value)).reverse.lookup x)
  (sb:Heap.SameBut s.heap.objs.size (s.heap.push { cls:=.type "dict",data:=.dict #[] }) h') :
  Inv (jax X scope (own++caps.map (·.1)) s.heap.objs.size s H fp) [] (jbn own.length caps σ) H { s with heap:=h',toks:=t' }:=by
 have up:∀ b o,s.heap.get? b=some o→h'.get? b=some o:=fun b o e=>sb.extBut b o (Nat.ne_of_lt (Heap.lt_size e)) (Heap.get?_push_of_some _ e)
 have stk:∀ b∈fp,b∉frs X.stack:=fun b hb' z=>by
  obtain⟨_,f1,f2,_⟩:=hf b hb'
  rcases List.mem_cons.mp (I.stkSub b z) with q|q
  ·exact f1 q
  ·exact f2 q
 have clc:∀ x c,(clOf X.env.cells scope.names []).lookup x=some c→X.env.cells.lookup x=some c:=fun x c h=>by
  rcases jmo _ _ h with e|⟨e1,e2⟩
  ·cases e
  ·obtain⟨c',hc'⟩:=I.ok.has x (ck.fre _ e1 rfl)
   rw[hc'] at e2 ⊢
   exact congrArg some e2.symm
 have cell:∀ x c,(clOf X.env.cells scope.names []).lookup x=some c→∃ v,s.heap.IsCell c v:=fun x c h=>I.cell x c (clc x c h)
 have okk:(jax X scope (own++caps.map (·.1)) s.heap.objs.size s H fp).Ok:=by
  refine⟨I.ok.mod,ck.kind,I.ok.glob,I.ok.blt,Nat.le_refl _,fun x y c h1 h2=>I.ok.inj x y c (clc x c h1) (clc y c h2),fun x hx=>?_,fun x c hfn=>?_,I.ok.hd,I.ok.frames,.inl rfl,fun b z=>⟨?_,fun x c h=>?_⟩,I.bs,
   Nat.le_trans I.ok.bsz I.sz,fun b o e z=>?_,stk,I.stack,I.stkFree⟩
  ·have hx':∃ k,(scope.names.map fun (n,k)=>if (k == NameKind.free&&X.env.scope.kind == .function&&X.env.kindOf n == some .cell) then (n,NameKind.cell) else (n,k)).lookup x=some k∧(k=.cell∨k=.free):=by
    rcases hx with q|q
    ·exact⟨_,q,.inl rfl⟩
    ·exact⟨_,q,.inr rfl⟩
   obtain⟨k,q,hk⟩:=hx'
   obtain⟨k',e,r⟩:=jep (scope:=scope) q
   have m:=PySem.mem_of_lookup e
   have hfree:k'=.free:=by
    rcases r with r|r
    ·rcases hk with hk|hk
     ·exact absurd (r.symm.trans hk) (ck.nocell _ m)
     ·exact r.symm.trans hk
    ·exact r.1
   subst hfree
   exact⟨_,ji6 _ _ m⟩
  ·cases hfn
  ·exact Nat.ne_of_lt (hb b z)
  ·exact (hf b z).2.2.2.2.1 x c (clc x c h)
  ·rcases (hf b z).2.2.2.1 with q|q
   ·exact I.ok.noex b o e q
   ·exact absurd (Nat.lt_of_lt_of_le (Heap.lt_size e) (Nat.le_trans I.ok.bsz q)) (Nat.lt_irrefl _)
 refine⟨okk,rfl,I.bare,Un.kept up,⟨_,ns,fun i x v h1 h2 h3=>?_⟩,fun x c h=>?_,I.hok.fresh (Nat.le_refl _),fun x c h=>I.freeC x c (clc x c h),fun p hp=>absurd (show p∈([]:List (Addr×Obj)) from hp) (by simp),I.hok.kept up,?_⟩
 ·obtain⟨p,hp,hi,hv⟩:=jpp h2
  have hx:p.1=x:=by
   have h1':(own++caps.map (·.1))[i]? = some x:=h1
   rw[List.getElem?_append_right hi,List.getElem?_map,hp] at h1'
   exact Option.some.inj h1'
  subst hx
  obtain⟨cN,cf⟩:=ck.cap p (List.mem_of_getElem? hp)
  have mem:=PySem.mem_of_lookup cf
  obtain⟨m,hn,hl⟩:=I.loc
  have kf:=ck.fre _ mem rfl
  obtain⟨u,r,l⟩:=hl p.2 p.1 v cN hv (by rcases kf with q|q;exact .inr (.inl q);exact .inr (.inr q))
  refine⟨u,r,.inr ?_⟩
  rcases l with ⟨k,_⟩|⟨k,c,e,z⟩
  ·rcases kf with q|q<;>(rw[q] at k;cases k)
  ·refine⟨jeo cf,c,?_,z.keeps up⟩
   show (clOf X.env.cells scope.names []).lookup p.1=some c
   rw[ji6 _ _ mem,e]
   rfl
 ·obtain⟨v,z⟩:=cell x c h
  exact⟨v,z.keeps up⟩
 ·show (jbn own.length caps σ).length=(own++caps.map (·.1)).length
  simp[jbn]
end
noncomputable abbrev NoX:Value→Shared→Prop:=fun _ _=>False
theorem js6{α:Type}{M:Model}{A:Around}{t:Sem α}{Q:α→Shared→Prop}{E:Value→Shared→Prop}{s:Shared}(h:wpAny M A t Q NoX s):wpAny M A t Q E s:=wpAny_mono h (fun _ _ q=>q) fun _ _ q=>q.elim
noncomputable abbrev jrh(ifs:List Expr)(env:Env):Sem Bool:=forIn ifs true fun c r=>if r=true then do let ok ← isTrue c env (eval c env);pure (ForInStep.yield ok) else pure (ForInStep.yield r)
section
variable {prog:Program}{w:World}{A:Around}{R:Result→Shared→Prop}{s:Shared}
theorem jf5{elt target iter:Expr}{ifs:List Expr}{scope:Scope}{pos:Pos}{it acc:Value}{env:Env}(J:Nat→Shared→Prop)
  (turn:∀ n s,J n s→wpAny (model prog w) A (pyNext it) (fun r s1=>match r with
   | none=>R (.ok .next) s1
   | some v=>wpAny (model prog w) A (letOwnedTupleGo target it v) (fun _ s2=>wpAny (model prog w) A (assign target env v) (fun _ s3=>wpAny (model prog w) A (jrh ifs env) (fun ok s4 =>
     if ok=true then wpAny (model prog w) A (eval elt env) (fun x s5=>wpAny (model prog w) A (call (.builtin "list.append") [acc,x]) (fun _ s6=>∃ m,m<n∧J m s6) NoX s5) NoX s4
     else ∃ m,m<n∧J m s4) NoX s3) NoX s2) NoX s1) NoX s)
  (n:Nat) (h:J n s):codeAny (model prog w) A (.compLoop (.ListComp elt [⟨target,iter,ifs,0⟩] scope pos) 0 it acc env) R s:=by
 refine codeAny_loop rfl J (fun n s hJ=>?_) n h
 show wpAny _ A ((compTurn (.ListComp elt [⟨target,iter,ifs,0⟩] scope pos) 0 it acc env).onRaise (fun x=>do noteFrame x env;theTreesLotGoes x)) _ _ s
 refine wpAny_noted (js6 ?_)
 rw[compTurn_list]
 refine wpAny_bind (wpAny_standAt (wpAny_bind (thn (turn n s hJ) fun r s1 h1=>?_)))
 cases r with
 | none=>exact wpAny_pure h1
 | some v =>
  refine wpAny_bind (thn h1 fun _ s2 h2=>wpAny_bind (thn h2 fun _ s3 h3=>wpAny_bind (thn h3 fun ok s4 h4=>?_)))
  cases ok with
  | false =>
   rw[if_neg (by decide)] at h4
   first
    | exact wpAny_pure ⟨rfl,h4⟩
    | exact wpAny_bind (wpAny_pure (wpAny_pure ⟨rfl,h4⟩))
  | true =>
   rw[if_pos rfl] at h4
   first
    | exact wpAny_bind (wpAny_bind (thn h4 fun x s5 h5=>wpAny_bind (thn h5 fun _ s6 h6=>wpAny_pure (wpAny_pure ⟨rfl,h6⟩))))
    | exact wpAny_bind (thn h4 fun x s5 h5=>wpAny_bind (thn h5 fun _ s6 h6=>wpAny_pure ⟨rfl,h6⟩))
end
section
variable {X:Cx}
noncomputable def PC0(X:Cx)(ifs:List Expr)(t:TT):Prop :=
 ∀ (pins:List (Addr×Obj)) (s:Shared) (σ:St) (H:Hp) (Q:Bool→Hp→Prop),Inv X pins σ H s→t σ H Q→wpAny (model X.prog X.w) X.A (jrh ifs X.env) (TP X pins σ Q) X.xe s
noncomputable def jjt:TT:=fun _ H Q=>Q true H
theorem jqu:PC0 X [] jjt:=fun pins s σ H Q I h=>wpAny_tests_nil ⟨H,I,h⟩
theorem jzo{c:Expr}{t:TT}(h:PT X c t):PC0 X [c] t:=fun pins s σ H Q I hw=>wpAny_tests_one (h pins s σ H Q I hw)
theorem jvr{P:Program}{w:World}{H:Hp}{h h':Heap}{C:Addr}(ok:HOk P w H h)(hC:H C=none)(sb:Heap.SameBut C h h'):HOk P w H h':=fun b ob e=>by
 refine (ok b ob e).stay (fun c u hc q=>(sb.2 c ?_).trans q) (fun _ q=>q) fun _ _ q=>q
 rintro rfl
 rcases hc with rfl|hc
 ·rw[hC] at e;cases e
 ·rw[hC] at hc;cases hc
theorem ju0{fs ex:List Addr}{H H':Hp}{h h1 h2:Heap}{C:Addr}(u:Un fs ex H H' h h1)(hC:h.objs.size≤C)(sb:Heap.SameBut C h1 h2):Un fs ex H H' h h2:=by
 have ne:∀ b o,h.get? b=some o→b≠C:=fun b o e=>Nat.ne_of_lt (Nat.lt_of_lt_of_le (Heap.lt_size e) hC)
 refine⟨fun b o e n a c=>(sb.2 b (ne b o e)).trans (u.keep b o e n a c),fun b o e n a c=>?_,u.free,fun b o e c=>?_,u.tups,u.frzs,u.tbls⟩
 ·obtain⟨sl,q⟩:=u.slot b o e n a c
  exact⟨sl,(sb.2 b (ne b o e)).trans q⟩
 ·obtain⟨o',q⟩:=u.there b o e c
  exact⟨o',(sb.2 b (ne b o e)).trans q⟩
inductive CpInv(X:Cx)(tn:Nat→Heap→Prop)(fp:List Addr)(W:Nat→Nat→St→Hp→Prop)(n:Nat)(s:Shared):Prop
 | mk (i:Nat) (σ:St) (H:Hp) (hI:Inv X [] σ H s) (ht:tn i s.heap) (hf:∀ b∈fp,H b=none) (hw:W i n σ H)
theorem jjl{elt tg iter:Expr}{ifs:List Expr}{scope:Scope}{pos:Pos}{own:List Str}{caps:List (Str×Nat)}{wi:TI}{g:TG}{tc:TT}{te:TE}(hc:X.calm=true)(ck:CapsOk X scope caps)
  (hi:PI X tg iter wi) (hg:∀ C s0 H0 ex,PG (jax X scope (own++caps.map (·.1)) C s0 H0 ex) tg g) (ht:∀ C s0 H0 ex,PC0 (jax X scope (own++caps.map (·.1)) C s0 H0 ex) ifs tc)
  (he:∀ C s0 H0 ex,PE (jax X scope (own++caps.map (·.1)) C s0 H0 ex) elt te) (hs:autoParam (∀ x,foldedSetIterable iter X.env x=pure x) zau4._auto_1) :
  PE X (.ListComp elt [⟨tg,iter,ifs,0⟩] scope pos) (jrg own.length caps wi g tc te):=by
 intro pins s σ H Q I h
 have hcl:closureFor scope X.env=pure (clOf X.env.cells scope.names []):=jid fun p hp hf=>I.ok.has p.1 (ck.fre p hp hf)
 rw[eval_ListComp]
 refine wpAny_comprehension_free (use:=none) rfl hs hcl ck.kind ck.loc (thn (hi pins s σ H _ I h) fun v s1 h1=>thn h1 fun itv s2 h2=>?_)
 obtain⟨it,fp,tn,J,H2,e,I2,T,st2,f2,hw⟩:=h2
 subst e
 obtain⟨W,⟨m0,w0⟩,turn⟩:=hw s2.heap.objs.size (I2.hok.fresh (Nat.le_refl _))
 refine wpAny_newObj_type ?_
 have hD:=I2.hok.fresh (Nat.le_refl s2.heap.objs.size)
 have I3:Inv X pins σ (upd H2 s2.heap.objs.size (.lst [])) { s2 with heap:=s2.heap.push { cls:=.type "list",data:=.seq ([]:List Value).toArray } } :=
  I2.laid (t':=s2.toks) (fun b u e=>Heap.get?_push_of_some _ e) (Nat.le_refl _) ⟨Nat.zero_le _,[],0,.nil,Heap.get?_push_size _ rfl⟩
 have hlt:∀ b∈fp,b<s2.heap.objs.size:=fun b hb=>by obtain⟨o,e,_⟩:=T.obj _ _ st2 b hb;exact Heap.lt_size e
 have f3:∀ b∈fp,FpOk X pins (upd H2 s2.heap.objs.size (.lst [])) b:=fun b hb=>⟨by rw[jaj (Nat.ne_of_lt (hlt b hb))];exact (f2 b hb).1,(f2 b hb).2⟩
 have hlt3:∀ b∈fp,b<(s2.heap.push { cls:=.type "list",data:=.seq ([]:List Value).toArray }).objs.size:=fun b hb=>by rw[Heap.size_push];exact Nat.lt_succ_of_lt (hlt b hb)
 refine wpAny_newFunctionEnv ck.nocell (by intro y hy;simp at hy) (fun h' hns hsb=>?_) ck.kind
 generalize hS3:({ s2 with heap:=s2.heap.push { cls:=.type "list",data:=.seq ([]:List Value).toArray } }:Shared)=S3 at I3 hns hsb ⊢
 have hlt3':∀ b∈fp,b<S3.heap.objs.size:=by rw[← hS3];exact hlt3
 have I4:=jmw (own:=own) (t':=S3.toks+([]:List (Str×Value)).length) I3 ck f3 hlt3' hns hsb
 have st4:tn 0 h':=T.keep _ _ _ st2 fun b hb o e=>hsb.extBut b o (Nat.ne_of_lt (hlt3' b hb)) (Heap.get?_push_of_some _ (by rw[← hS3];exact Heap.get?_push_of_some _ e))
 have hsz:s2.heap.objs.size<S3.heap.objs.size:=by rw[← hS3];show _<(Heap.push _ _).objs.size;rw[Heap.size_push];exact Nat.lt_succ_self _
 generalize hCC:S3.heap.objs.size=C at I4 hsb hns hsz
 have loop:codeAny (model X.prog X.w) X.A (.compLoop (.ListComp elt [⟨tg,iter,ifs,0⟩] scope pos) 0 (.ref it) (.ref s2.heap.objs.size) (compEnvC scope (clOf X.env.cells scope.names []) C X.env))
   (compPost (model X.prog X.w) X.A X.xe none (EP X pins σ Q) (.ref s2.heap.objs.size) C) { S3 with heap:=h',toks:=S3.toks+([]:List (Str×Value)).length }:=by
  have xf:∀ {H':Hp},(∀ b∈fp,H' b=none)→∀ b∈fp,FpOk (jax X scope (own++caps.map (·.1)) C S3 (upd H2 s2.heap.objs.size (.lst [])) fp) [] H' b:=fun hn b hb=>by
   refine⟨hn b hb,?_,?_,.inl hb,fun x c e=>(I4.ok.exf b hb).2 x c e,fun p hp=>absurd (show p∈([]:List (Addr×Obj)) from hp) (by simp)⟩
   ·exact (I4.ok.exf b hb).1
   ·exact I4.ok.exfs b hb
  refine jf5 (CpInv (jax X scope (own++caps.map (·.1)) C S3 (upd H2 s2.heap.objs.size (.lst [])) fp) tn fp W) ?_ m0
   ⟨0,_,_,I4,st4,fun b hb=>(f3 b hb).1,w0⟩
  rintro n s5 ⟨i,σ5,H5,I5,st5,fr5,w5⟩
  rcases turn i n σ5 H5 w5 with ⟨stop,qn⟩|⟨go,N,hN,step⟩
  ·refine thn (T.done (jax X scope (own++caps.map (·.1)) C S3 (upd H2 s2.heap.objs.size (.lst [])) fp) rfl rfl rfl hc i [] s5 σ5 H5 NoX I5 (xf fr5) st5 stop) fun r s6 hzz=>?_
   obtain⟨hr,I6⟩:=hzz
   subst hr
   obtain⟨m6,n6,_⟩:=id I6.loc
   refine⟨m6,n6,fun h7 sb7=>⟨.ref s2.heap.objs.size,H5,?_,rfl,qn⟩⟩
   have C3:S3.heap.objs.size≤C:=Nat.le_of_eq hCC
   refine I3.call' (s':={ s6 with heap:=h7 }) (ch:=fp) I6.os (ju0 I6.base C3 sb7) (jvr I6.hok I6.free sb7) I6.bare fun b hb=>?_
   obtain⟨_,q1,_,q3,q4,q5⟩:=f3 b hb
   exact⟨q3,q1,q4,q5⟩
  ·refine thn (T.item (jax X scope (own++caps.map (·.1)) C S3 (upd H2 s2.heap.objs.size (.lst [])) fp) rfl rfl rfl hc i [] s5 σ5 H5 NoX I5 (xf fr5) st5 go) fun r s6 hzz=>?_
   obtain⟨u,hr,h6⟩:=hzz
   subst hr
   refine thn h6 fun _ s7 hzz=>?_
   obtain⟨x,H7,I7,r7,y7,st7,fr7⟩:=hzz
   have I7':=I7.pinned (xf fr7) (T.obj _ _ st7)
   refine thn (hg _ _ _ _ _ s7 σ5 H7 x u _ I7' r7 (step x H7 y7)) fun _ s8 hzz=>?_
   obtain⟨σ8,H8,I8,q8⟩:=hzz
   refine thn (ht _ _ _ _ _ s8 σ8 H8 _ I8 q8) fun ok s9 hzz=>?_
   obtain⟨H9,I9,q9⟩:=hzz
   have again:∀ {s':Shared} {σ':St} {H':Hp},Inv (jax X scope (own++caps.map (·.1)) C S3 (upd H2 s2.heap.objs.size (.lst [])) fp) ([]++jio fp s7.heap) σ' H' s'→N σ' H'→∃ m,m<n∧CpInv (jax X scope (own++caps.map (·.1)) C S3 (upd H2 s2.heap.objs.size (.lst [])) fp) tn fp W m s':=fun {s' σ' H'} Ia na=>by
    obtain⟨m',hm,wa⟩:=hN σ' H' na
    refine⟨m',hm,i+1,σ',H',Ia.unpinned,T.keep _ _ _ st7 fun b hb o e=>(Ia.pin (b,o) (List.mem_append_right _ (List.mem_append_right _ (jdc hb e)))).1,fun b hb=>?_,wa⟩
    obtain⟨o,e,d⟩:=T.obj _ _ st7 b hb
    exact (Ia.pin (b,o) (List.mem_append_right _ (List.mem_append_right _ (jdc hb e)))).2.1
   cases ok with
   | false =>
    rw[if_neg (by decide)] at q9 ⊢
    exact again I9 q9
   | true =>
    rw[if_pos rfl] at q9 ⊢
    refine thn (he _ _ _ _ _ s9 σ8 H9 _ I9 q9) fun y s10 hzz=>?_
    obtain⟨vy,H10,I10,r10,ys,hys,hlen,q10⟩:=hzz
    refine thn (jfo _ s10 σ8 H10 (.ref s2.heap.objs.size) [vy] (.ref s2.heap.objs.size) [y] (fun _ H'=>N σ8 H') I10 rfl (.cons r10 .nil) ⟨_,ys,vy,rfl,rfl,hys,hlen,q10⟩) fun _ s11 hzz=>?_
    obtain⟨_,H11,I11,_,q11⟩:=hzz
    exact again I11 q11
 exact codeAny_compStart_list loop (T.self _ 0 _ _ _ st4 loop)
end
noncomputable def ItOn(k:Bool)(h:Heap)(it l:Addr)(i:Nat):Prop:=if k=true then h.IsTupleIter it l i else h.IsListIter it l i
noncomputable def SrcOn(k:Bool)(h:Heap)(l:Addr)(xs:Array Value):Prop:=if k=true then h.IsTuple l xs else h.IsList l xs
theorem ItOn.mv{k:Bool}{h h':Heap}{it l:Addr}{i:Nat}(x:ItOn k h it l i)(e:∀ o,h.get? it=some o→h'.get? it=some o):ItOn k h' it l i:=by
 cases k with
 | true=>exact Heap.IsTupleIter.at (h:=h) x e
 | false=>exact Heap.IsListIter.at (h:=h) x e
theorem SrcOn.mv{k:Bool}{h h':Heap}{l:Addr}{xs:Array Value}(x:SrcOn k h l xs)(e:∀ o,h.get? l=some o→h'.get? l=some o):SrcOn k h' l xs:=by
 cases k with
 | true=>exact Heap.IsTuple.at (h:=h) x e
 | false=>exact Heap.IsList.at (h:=h) x e
theorem ItOn.ob{k:Bool}{h:Heap}{it l:Addr}{i:Nat}(x:ItOn k h it l i):∃ o vs,h.get? it=some o∧o.data=.fields vs:=by
 cases k with
 | true=>obtain⟨o,e,_,d⟩:=(x:h.IsTupleIter it l i);exact⟨o,_,e,d⟩
 | false=>obtain⟨o,e,_,d⟩:=(x:h.IsListIter it l i);exact⟨o,_,e,d⟩
section
variable {prog:Program}{w:World}{A:Around}{E:Value→Shared→Prop}{s:Shared}
theorem jil{it l:Addr}{i:Nat}{items:Array Value}{x:Value}{Q:Value→Shared→Prop}(hi:s.heap.IsTupleIter it l i)(hl:s.heap.IsTuple l items)(hx:items[i]? = some x)
  (hQ:∀ h',h'.IsTupleIter it l (i+1)→Heap.SameBut it s.heap h'→Q x { s with heap:=h' }):wpAny (model prog w) A (Builtin.SmallTypes.nextOf (.ref it)) Q E s:=by
 obtain⟨ob,eo,oc,od⟩:=id hi
 obtain⟨tl,el,_,nl,dl⟩:=hl
 unfold Builtin.SmallTypes.nextOf
 refine wpAny_bind (wpAny_callSpecial?_slot (name:=Str.ofString "__next__") hi.typeIs F.slot_tuple_iterator_next (wpAny_call_entry F.slot_tuple_iterator_next hi.typeIs F.entry_tuple_iterator_next ?_ (F.args_tuple_iterator_next_1 _)))
 show wpAny _ _ (field (.ref it) 0 >>= _) _ _ s
 refine wpAny_bind (wpAny_field eo od (x:=.ref l) rfl ?_)
 show wpAny _ _ (if (Value.ref l == Value.none)=true then _ else _) _ _ s
 rw[if_neg (show ¬ ((Value.ref l == Value.none)=true) from fun q=>Bool.false_ne_true q)]
 show wpAny _ _ (field (.ref it) 1 >>= _) _ _ s
 refine wpAny_bind (wpAny_field eo od (x:=.int i 0) rfl (show wpAny _ _ (seqItems? (.ref l) >>= _) _ _ s from wpAny_bind (wpAny_seqItems el dl ?_)))
 simp only[Int.toNat_natCast,hx]
 refine wpAny_bind (wpAny_setField eo od (by simp) (wpAny_pure ⟨x,rfl,wpAny_pure (hQ _ ⟨_,Heap.get?_update_self _ eo (Obj.isFreed_of_fields (Obj.data_mapFields od _)),(Obj.cls_mapFields ..).trans oc,?_⟩ (Heap.SameBut.update ..))⟩))
 rw[Obj.data_mapFields od];simp[rawInt]
theorem je4{it l:Addr}{i:Nat}{items:Array Value}{Q:Value→Shared→Prop}(hh:A.handled=none)(hi:s.heap.IsTupleIter it l i)(hl:s.heap.IsTuple l items)(hx:items[i]? = none)
  (hE:∀ h' e,Heap.ExtBut it s.heap h'→(∃ o,h'.get? e=some o∧o.cls=.type "StopIteration")→E (.ref e) { s with heap:=h' }):wpAny (model prog w) A (Builtin.SmallTypes.nextOf (.ref it)) Q E s:=by
 obtain⟨ob,eo,oc,od⟩:=id hi
 obtain⟨tl,el,_,nl,dl⟩:=hl
 unfold Builtin.SmallTypes.nextOf
 refine wpAny_bind (wpAny_callSpecial?_slot (name:=Str.ofString "__next__") hi.typeIs F.slot_tuple_iterator_next (wpAny_call_entry F.slot_tuple_iterator_next hi.typeIs F.entry_tuple_iterator_next ?_ (F.args_tuple_iterator_next_1 _)))
 show wpAny _ _ (field (.ref it) 0 >>= _) _ _ s
 refine wpAny_bind (wpAny_field eo od (x:=.ref l) rfl ?_)
 show wpAny _ _ (if (Value.ref l == Value.none)=true then _ else _) _ _ s
 rw[if_neg (show ¬ ((Value.ref l == Value.none)=true) from fun q=>Bool.false_ne_true q)]
 show wpAny _ _ (field (.ref it) 1 >>= _) _ _ s
 refine wpAny_bind (wpAny_field eo od (x:=.int i 0) rfl (show wpAny _ _ (seqItems? (.ref l) >>= _) _ _ s from wpAny_bind (wpAny_seqItems el dl ?_)))
 simp only[Int.toNat_natCast,hx]
 refine wpAny_bind (wpAny_rule (wpAny_bind (wpAny_setField eo od (by simp) ?_)))
 show wpAny _ _ (newExc (.type "StopIteration") [] >>= _) _ _ _
 refine wpAny_bind ?_
 simp only[newExc,newTuple]
 refine wpAny_bind (wpAny_newObj_type (wpAny_bind (m:=firstArgMember _ _) (wpAny_of_eq (a:=Value.none) (by first|rfl|(simp only[firstArgMember];rfl)) (wpAny_newObj_type ?_ (by size_fits)))) (by size_fits))
 simp only[raiseNew]
 refine wpAny_bind (wpAny_handled ?_)
 first|rw[show A.in1.handled=none from hh]|rw[hh]
 exact wpAny_bind (wpAny_pure (wpAny_throw (hE _ _ (((Heap.SameBut.update ..).extBut.push _).push _) ⟨_,Heap.get?_push_size _ rfl,rfl⟩)))
theorem jhp{k:Bool}{it l:Addr}{i:Nat}{items:Array Value}{x:Value}{Q:Value→Shared→Prop}(hi:ItOn k s.heap it l i)(hl:SrcOn k s.heap l items)(hx:items[i]? = some x)
  (hQ:∀ h',ItOn k h' it l (i+1)→Heap.SameBut it s.heap h'→Q x { s with heap:=h' }):wpAny (model prog w) A (Builtin.SmallTypes.nextOf (.ref it)) Q E s:=by
 cases k with
 | true=>exact jil hi hl hx hQ
 | false=>exact wpAny_nextOf_list_item hi hl hx hQ
theorem jfq{k:Bool}{it l:Addr}{i:Nat}{items:Array Value}{Q:Value→Shared→Prop}(hh:A.handled=none)(hi:ItOn k s.heap it l i)(hl:SrcOn k s.heap l items)(hx:items[i]? = none)
  (hE:∀ h' e,Heap.ExtBut it s.heap h'→(∃ o,h'.get? e=some o∧o.cls=.type "StopIteration")→E (.ref e) { s with heap:=h' }):wpAny (model prog w) A (Builtin.SmallTypes.nextOf (.ref it)) Q E s:=by
 cases k with
 | true=>exact je4 hh hi hl hx hE
 | false=>exact wpAny_nextOf_list_end hh hi hl hx hE
theorem jpr{k:Bool}{l:Addr}{xs:Array Value}{Q:Value→Shared→Prop}(hl:SrcOn k s.heap l xs)
  (h:∀ o,ItOn k (s.heap.push o) s.heap.objs.size l 0→Q (.ref s.heap.objs.size) { s with heap:=s.heap.push o }):wpAny (model prog w) A (pyIter (.ref l)) Q E s:=by
 cases k with
 | true=>exact wpAny_pyIter_tuple hl (h _ ⟨_,Heap.get?_push_size _ rfl,rfl,rfl⟩)
 | false=>exact wpAny_pyIter_list hl (h _ ⟨_,Heap.get?_push_size _ rfl,rfl,rfl⟩)
structure ZFar(z TI TO i1 i2:Addr):Prop where
 a1:TI≠z
 a2:TO≠z
 a3:i1≠z
 a4:i2≠z
 a5:TI≠TO
 a6:TI≠i1
 a7:TI≠i2
 a8:TO≠i1
 a9:TO≠i2
 a10:i1≠i2
noncomputable def LFar(z TO i1 i2 l:Addr):Prop:=l≠z∧l≠TO∧l≠i1∧l≠i2
theorem jty{k1 k2:Bool}{z TI TO i1 i2 l1 l2:Addr}{n1 n2:Nat}{xs ys:Array Value}{x y a b:Value}{Q:Value→Shared→Prop}(D:ZFar z TI TO i1 i2)(d1:LFar z TO i1 i2 l1)(d2:LFar z TO i1 i2 l2)
  (hz:IsZip s.heap z TI TO .none) (ht:IsPair s.heap TI (.ref i1) (.ref i2)) (hu:IsPair s.heap TO a b) (j1:ItOn k1 s.heap i1 l1 n1) (j2:ItOn k2 s.heap i2 l2 n2) (c1:SrcOn k1 s.heap l1 xs) (c2:SrcOn k2 s.heap l2 ys)
  (hx:xs[n1]? = some x) (hy:ys[n2]? = some y)
  (hQ:∀ h',IsZip h' z TI TO (rawInt s.heap.objs.size)→IsPair h' TO x y→ItOn k1 h' i1 l1 (n1+1)→ItOn k2 h' i2 l2 (n2+1)→IsPair h' s.heap.objs.size x y →
   (∀ c o,c≠z→c≠TO→c≠i1→c≠i2→s.heap.get? c=some o→h'.get? c=some o)→Q (.ref s.heap.objs.size) { s with heap:=h' }) :
  wpAny (model prog w) A (Builtin.«zip.__next__» ⟨[.ref z],[]⟩) (fun fin s'=>∃ v,fin=.done (.ret v)∧Q v s') E s:=by
 show wpAny _ _ (field (.ref z) 2 >>= _) _ _ _
 refine wpAny_bind (wpAny_field hz rfl (x:=.bool false) rfl (show wpAny _ _ (field (.ref z) 3 >>= _) _ _ _ from wpAny_bind (wpAny_field hz rfl (x:=.ref TI) rfl (wpAny_bind (wpAny_seqItems ht rfl ?_)))))
 show wpAny _ _ (Builtin.SmallTypes.ownedTupleIsFree (.ref z) >>= _) _ _ _
 refine wpAny_bind ?_
 unfold Builtin.SmallTypes.ownedTupleIsFree
 refine wpAny_bind (wpAny_field hz rfl (x:=.none) rfl (wpAny_pure ?_))
 simp only[if_true]
 refine wpAny_bind (wpAny_rule (wpAny_bind (wpAny_field hz rfl (x:=.ref TO) rfl (wpAny_bind (wpAny_setField_rec hz (by simp) fun g1 z1 e1=>wpAny_bind ?_)))))
 replace z1:IsZip g1 z TI TO .ellipsis:=z1
 simp only[List.zipIdx_cons,List.zipIdx_nil,List.forIn_cons,List.forIn_nil]
 refine wpAny_bind (wpAny_bind (wpAny_onRaise (show wpAny _ _ (Builtin.SmallTypes.nextOf (.ref i1) >>= _) _ _ _ from ?_)))
 refine wpAny_bind (jhp (j1.mv fun o q=>e1.extBut _ _ D.a3 q) (c1.mv fun o q=>e1.extBut _ _ d1.1 q) hx fun g2 m1 e2=>wpAny_pure ?_)
 have u2:IsPair g2 TO a b:=e2.extBut _ _ D.a8 (e1.extBut _ _ D.a2 hu)
 refine wpAny_bind (wpAny_seqItems u2 rfl (wpAny_bind (wpAny_updateSeq_pair u2 fun g3 u3 e3=>wpAny_bind (wpAny_letGo (wpAny_pure ?_)))))
 replace u3:IsPair g3 TO x b:=u3
 have up3:∀ c o,c≠z→c≠TO→c≠i1→s.heap.get? c=some o→g3.get? c=some o:=fun c o p1 p2 p3 q=>e3.extBut _ _ p2 (e2.extBut _ _ p3 (e1.extBut _ _ p1 q))
 refine wpAny_bind (wpAny_bind (wpAny_onRaise (show wpAny _ _ (Builtin.SmallTypes.nextOf (.ref i2) >>= _) _ _ _ from ?_)))
 refine wpAny_bind (jhp (j2.mv fun o q=>up3 _ o D.a4 D.a9.symm D.a10.symm q) (c2.mv fun o q=>up3 _ o d2.1 d2.2.1 d2.2.2.1 q) hy fun g4 m2 e4=>wpAny_pure ?_)
 have u4:IsPair g4 TO x b:=e4.extBut _ _ D.a9 u3
 refine wpAny_bind (wpAny_seqItems u4 rfl (wpAny_bind (wpAny_updateSeq_pair u4 fun g5 u5 e5=>wpAny_bind (wpAny_letGo (wpAny_pure (wpAny_pure ?_))))))
 replace u5:IsPair g5 TO x y:=u5
 refine wpAny_bind (wpAny_seqItems u5 rfl (wpAny_bind (wpAny_newTuple ?_)))
 have sz:g5.objs.size=s.heap.objs.size:=by rw[e5.1,e4.1,e3.1,e2.1,e1.1]
 have z5:IsZip g5 z TI TO .ellipsis:=e5.extBut _ _ D.a2.symm (e4.extBut _ _ D.a4.symm (e3.extBut _ _ D.a2.symm (e2.extBut _ _ D.a3.symm z1)))
 have up5:∀ c o,c≠z→c≠TO→c≠i1→c≠i2→s.heap.get? c=some o→g5.get? c=some o:=fun c o p1 p2 p3 p4 q=>e5.extBut _ _ p2 (e4.extBut _ _ p4 (up3 c o p1 p2 p3 q))
 have m15:ItOn k1 g5 i1 l1 (n1+1):=m1.mv fun o q=>e5.extBut _ _ D.a8.symm (e4.extBut _ _ D.a10 (e3.extBut _ _ D.a8.symm q))
 have m25:ItOn k2 g5 i2 l2 (n2+1):=m2.mv fun o q=>e5.extBut _ _ D.a9.symm q
 have zlt:z<g5.objs.size:=Heap.lt_size z5
 show wpAny _ _ (Builtin.SmallTypes.ownedTupleHandOut (.ref z) (.ref g5.objs.size) >>= _) _ _ _
 refine wpAny_bind ?_
 unfold Builtin.SmallTypes.ownedTupleHandOut
 have z6:IsZip (g5.push { cls:=.type "tuple",data:=.seq #[x,y] }) z TI TO .ellipsis:=Heap.get?_push_of_some _ z5
 refine wpAny_bind (wpAny_setField_rec z6 (by simp) fun g7 z7 e7=>?_)
 replace z7:IsZip g7 z TI TO (rawInt g5.objs.size):=z7
 refine wpAny_setField_rec z7 (by simp) fun g8 z8 e8=>?_
 replace z8:IsZip g8 z TI TO (rawInt g5.objs.size):=z8
 have up8:∀ c o,c≠z→g5.get? c=some o→g8.get? c=some o:=fun c o p1 q=>e8.extBut _ _ p1 (e7.extBut _ _ p1 (Heap.get?_push_of_some _ q))
 have t8:IsPair g8 g5.objs.size x y:=e8.extBut _ _ (Nat.ne_of_gt zlt) (e7.extBut _ _ (Nat.ne_of_gt zlt) (Heap.get?_push_size _ rfl))
 rw[sz] at z8 t8
 refine wpAny_pure ⟨_,rfl,?_⟩
 show Q (.ref g5.objs.size) _
 rw[sz]
 exact hQ g8 z8 (up8 _ _ D.a2 u5) (m15.mv fun o q=>up8 _ o D.a3 q) (m25.mv fun o q=>up8 _ o D.a4 q) t8 fun c o p1 p2 p3 p4 q=>up8 c o p1 (up5 c o p1 p2 p3 p4 q)
theorem jxp{k1 k2:Bool}{z TI TO i1 i2 l1 l2:Addr}{n1 n2:Nat}{xs ys:Array Value}{a b:Value}{Q:PySem.Fin→Shared→Prop}(hh:A.handled=none)(D:ZFar z TI TO i1 i2)(d1:LFar z TO i1 i2 l1)(d2:LFar z TO i1 i2 l2)
  (hz:IsZip s.heap z TI TO .none) (ht:IsPair s.heap TI (.ref i1) (.ref i2)) (hu:IsPair s.heap TO a b) (j1:ItOn k1 s.heap i1 l1 n1) (j2:ItOn k2 s.heap i2 l2 n2) (c1:SrcOn k1 s.heap l1 xs) (c2:SrcOn k2 s.heap l2 ys)
  (hend:xs[n1]? = none∨ys[n2]? = none)
  (hE:∀ h' e,(∀ c o,c≠z→c≠TO→c≠i1→c≠i2→s.heap.get? c=some o→h'.get? c=some o)→(∃ o,h'.get? e=some o∧o.cls=.type "StopIteration")→E (.ref e) { s with heap:=h' }) :
  wpAny (model prog w) A (Builtin.«zip.__next__» ⟨[.ref z],[]⟩) Q E s:=by
 show wpAny _ _ (field (.ref z) 2 >>= _) _ _ _
 refine wpAny_bind (wpAny_field hz rfl (x:=.bool false) rfl (show wpAny _ _ (field (.ref z) 3 >>= _) _ _ _ from wpAny_bind (wpAny_field hz rfl (x:=.ref TI) rfl (wpAny_bind (wpAny_seqItems ht rfl ?_)))))
 show wpAny _ _ (Builtin.SmallTypes.ownedTupleIsFree (.ref z) >>= _) _ _ _
 refine wpAny_bind ?_
 unfold Builtin.SmallTypes.ownedTupleIsFree
 refine wpAny_bind (wpAny_field hz rfl (x:=.none) rfl (wpAny_pure ?_))
 simp only[if_true]
 refine wpAny_bind (wpAny_rule (wpAny_bind (wpAny_field hz rfl (x:=.ref TO) rfl (wpAny_bind (wpAny_setField_rec hz (by simp) fun g1 z1 e1=>wpAny_bind ?_)))))
 replace z1:IsZip g1 z TI TO .ellipsis:=z1
 simp only[List.zipIdx_cons,List.zipIdx_nil,List.forIn_cons,List.forIn_nil]
 refine wpAny_bind (wpAny_bind (wpAny_onRaise (show wpAny _ _ (Builtin.SmallTypes.nextOf (.ref i1) >>= _) _ _ _ from ?_)))
 cases hx:xs[n1]? with
 | none =>
  refine wpAny_bind (jfq hh (j1.mv fun o q=>e1.extBut _ _ D.a3 q) (c1.mv fun o q=>e1.extBut _ _ d1.1 q) hx fun g2 e f2 he=>?_)
  obtain⟨oe,q1,q2⟩:=he
  have z2:IsZip g2 z TI TO .ellipsis:=f2 _ _ D.a3.symm z1
  have nez:e≠z:=fun p=>by subst p;rw[z2] at q1;cases q1;simp at q2
  exact wpAny_setField_rec z2 (by simp) fun g3 _ e3=>hE g3 e (fun c o p1 _ p3 _ q=>e3.extBut _ _ p1 (f2 _ _ p3 (e1.extBut _ _ p1 q))) ⟨oe,e3.extBut _ _ nez q1,q2⟩
 | some x =>
  have hy:ys[n2]? = none:=by rcases hend with h|h;rw[hx] at h;cases h;exact h
  refine wpAny_bind (jhp (j1.mv fun o q=>e1.extBut _ _ D.a3 q) (c1.mv fun o q=>e1.extBut _ _ d1.1 q) hx fun g2 m1 e2=>wpAny_pure ?_)
  have u2:IsPair g2 TO a b:=e2.extBut _ _ D.a8 (e1.extBut _ _ D.a2 hu)
  refine wpAny_bind (wpAny_seqItems u2 rfl (wpAny_bind (wpAny_updateSeq_pair u2 fun g3 u3 e3=>wpAny_bind (wpAny_letGo (wpAny_pure ?_)))))
  have up3:∀ c o,c≠z→c≠TO→c≠i1→s.heap.get? c=some o→g3.get? c=some o:=fun c o p1 p2 p3 q=>e3.extBut _ _ p2 (e2.extBut _ _ p3 (e1.extBut _ _ p1 q))
  refine wpAny_bind (wpAny_bind (wpAny_onRaise (show wpAny _ _ (Builtin.SmallTypes.nextOf (.ref i2) >>= _) _ _ _ from ?_)))
  refine wpAny_bind (jfq hh (j2.mv fun o q=>up3 _ o D.a4 D.a9.symm D.a10.symm q) (c2.mv fun o q=>up3 _ o d2.1 d2.2.1 d2.2.2.1 q) hy fun g4 e f4 he=>?_)
  obtain⟨oe,q1,q2⟩:=he
  have z4:IsZip g4 z TI TO .ellipsis:=f4 _ _ D.a4.symm (e3.extBut _ _ D.a2.symm (e2.extBut _ _ D.a3.symm z1))
  have nez:e≠z:=fun p=>by subst p;rw[z4] at q1;cases q1;simp at q2
  exact wpAny_setField_rec z4 (by simp) fun g5 _ e5=>hE g5 e (fun c o p1 p2 p3 p4 q=>e5.extBut _ _ p1 (f4 _ _ p4 (up3 c o p1 p2 p3 q))) ⟨oe,e5.extBut _ _ nez q1,q2⟩
theorem js5{k1 k2:Bool}{z TI TO i1 i2 l1 l2:Addr}{n1 n2:Nat}{xs ys:Array Value}{x y a b:Value}{Q:Option Value→Shared→Prop}(D:ZFar z TI TO i1 i2)(d1:LFar z TO i1 i2 l1)(d2:LFar z TO i1 i2 l2)
  (hz:IsZip s.heap z TI TO .none) (ht:IsPair s.heap TI (.ref i1) (.ref i2)) (hu:IsPair s.heap TO a b) (j1:ItOn k1 s.heap i1 l1 n1) (j2:ItOn k2 s.heap i2 l2 n2) (c1:SrcOn k1 s.heap l1 xs) (c2:SrcOn k2 s.heap l2 ys)
  (hx:xs[n1]? = some x) (hy:ys[n2]? = some y)
  (hQ:∀ h',IsZip h' z TI TO (rawInt s.heap.objs.size)→IsPair h' TO x y→ItOn k1 h' i1 l1 (n1+1)→ItOn k2 h' i2 l2 (n2+1)→IsPair h' s.heap.objs.size x y →
   (∀ c o,c≠z→c≠TO→c≠i1→c≠i2→s.heap.get? c=some o→h'.get? c=some o)→Q (some (.ref s.heap.objs.size)) { s with heap:=h' }):wpAny (model prog w) A (pyNext (.ref z)) Q E s:=by
 have ty:s.TypeIs (.ref z) "zip":=⟨_,hz,rfl⟩
 unfold pyNext
 exact wpAny_bind (wpAny_attempt (wpAny_callSpecial?_slot (name:=Str.ofString "__next__") ty F.slot_zip_next (wpAny_call_entry F.slot_zip_next ty F.entry_zip_next
  (jty D d1 d2 hz ht hu j1 j2 c1 c2 hx hy fun h' b1 b2 b3 b4 b5 b6=>wpAny_pure (hQ h' b1 b2 b3 b4 b5 b6)) (F.args_zip_next_1 _))))
theorem jko{k1 k2:Bool}{z TI TO i1 i2 l1 l2:Addr}{n1 n2:Nat}{xs ys:Array Value}{a b:Value}{Q:Option Value→Shared→Prop}(hh:A.handled=none)(D:ZFar z TI TO i1 i2)(d1:LFar z TO i1 i2 l1)(d2:LFar z TO i1 i2 l2)
  (hz:IsZip s.heap z TI TO .none) (ht:IsPair s.heap TI (.ref i1) (.ref i2)) (hu:IsPair s.heap TO a b) (j1:ItOn k1 s.heap i1 l1 n1) (j2:ItOn k2 s.heap i2 l2 n2) (c1:SrcOn k1 s.heap l1 xs) (c2:SrcOn k2 s.heap l2 ys)
  (hend:xs[n1]? = none∨ys[n2]? = none)
  (hQ:∀ h',(∀ c o,c≠z→c≠TO→c≠i1→c≠i2→s.heap.get? c=some o→h'.get? c=some o)→Q none { s with heap:=h' }):wpAny (model prog w) A (pyNext (.ref z)) Q E s:=by
 have ty:s.TypeIs (.ref z) "zip":=⟨_,hz,rfl⟩
 unfold pyNext
 refine wpAny_bind (wpAny_attempt (wpAny_callSpecial?_slot (name:=Str.ofString "__next__") ty F.slot_zip_next (wpAny_call_entry F.slot_zip_next ty F.entry_zip_next (jxp hh D d1 d2 hz ht hu j1 j2 c1 c2 hend fun h' e hk he=>?_) (F.args_zip_next_1 _))))
 obtain⟨o,ho,hc⟩:=he
 exact wpAny_bind (wpAny_isInstance (T:="StopIteration") (b:=true) ⟨o,ho,hc⟩ isSubtype_stop (wpAny_pure (hQ _ hk)))
noncomputable abbrev zA(h:Heap)(o1 o2:Obj):Heap:=(h.push o1).push o2
noncomputable abbrev zB(h:Heap)(o1 o2:Obj):Heap:=(zA h o1 o2).push { cls:=.type "tuple",data:=.seq #[.ref h.objs.size,.ref (h.push o1).objs.size] }
noncomputable abbrev zC(h:Heap)(o1 o2:Obj):Heap:=(zB h o1 o2).push { cls:=.type "tuple",data:=.seq #[.none,.none] }
noncomputable abbrev zD(h:Heap)(o1 o2:Obj):Heap:=(zC h o1 o2).push { cls:=.type "zip",data:=.fields #[.none,.bool false,.bool false,.ref (zA h o1 o2).objs.size,.ref (zB h o1 o2).objs.size] }
theorem jqf{k1 k2:Bool}(l1 l2:Addr)(xs ys:Array Value):Meets (Builtin.«zip.__new__» ⟨[.type "zip",.ref l1,.ref l2],[]⟩) (fun _ R s=>SrcOn k1 s.heap l1 xs∧SrcOn k2 s.heap l2 ys ∧
  ∀ o1 o2,ItOn k1 (s.heap.push o1) s.heap.objs.size l1 0→ItOn k2 (zA s.heap o1 o2) (s.heap.push o1).objs.size l2 0→R (.ok (.ret (.ref (zC s.heap o1 o2).objs.size))) { s with heap:=zD s.heap o1 o2 }) :=
 .of_wp fun prog w A R s h=>by
  obtain⟨hp,g,d,tk,os⟩:=s
  obtain⟨c1,c2,h⟩:=h
  have hsub:=sub_zip
  have q1:SrcOn k1 (Shared.heap ⟨hp,g,d,tk,os⟩) l1 xs:=c1
  wp_walk using jpr q1
  intro o1 w1
  have q2:SrcOn k2 (Shared.heap ⟨hp.push o1,g,d,tk,os⟩) l2 ys:=SrcOn.mv c2 fun o e=>Heap.get?_push_of_some _ e
  wp_walk using jpr q2
  intro o2 w2
  wp_walk
  exact⟨_,rfl,h o1 o2 w1 w2⟩
end
section
variable {X:Cx}{pins:List (Addr×Obj)}{σ:St}{H:Hp}{s:Shared}
theorem Inv.spun{fp:List Addr}{h':Heap}{t':Nat}{T:Addr}{vs:List V}{its:List Value}(I:Inv X pins σ H s)(hf:∀ b∈fp,FpOk X pins H b)(k:∀ b o,b∉fp→s.heap.get? b=some o→h'.get? b=some o)
  (ko:∀ b∈fp,∃ o,h'.get? b=some o) (hT:s.heap.get? T=none) (hn:H T=none) (hv:Vals vs its) (hz:vs.length≤sizeLine) (ht:IsTup h' T its.toArray):Inv X pins σ (upd H T (.tup vs)) { s with heap:=h',toks:=t' }:=by
 have nT:∀ b o,s.heap.get? b=some o→b≠T:=fun b o e z=>by rw[z,hT] at e;cases e
 have nf:∀ b u,H b=some u→b∉fp:=fun b u e z=>by rw[(hf b z).1] at e;cases e
 refine I.step (g':=s.gens) (d':=s.drawn) (ch:=fp) (fun b hb=>?_) (fun b o _ _ hc e _=>k b o hc e) (fun b o _ _ hc e _=>⟨o.slots,k b o hc e⟩) (fun b o _ e n=>by rw[jaj (nT b o e)];exact n)
  (fun b o hc e=>⟨o,k b o hc e⟩) (fun b xs e=>by rw[jaj (jas e hn)];exact e) (fun b o u e=>by rw[jaj (jas e hn)];exact e) (fun b ps e=>⟨#[],by rw[jaj (jas e hn),e];simp⟩) (fun m hm=>?_) (fun b u e=>?_) I.bare
 ·obtain⟨_,f1,_,f3,f4,f5⟩:=hf b hb
  exact⟨f3,f1,f4,f5⟩
 ·obtain⟨o,es,ep,ho,r⟩:=hm
  exact⟨o,es,ep,k _ o (fun z=>(hf _ z).2.1 rfl) ho,r⟩
 ·by_cases hb:b=T
  ·subst hb
   rw[jag] at e;cases e
   exact⟨hz,its,hv,ht⟩
  ·rw[jaj hb] at e
   refine (I.hok b u e).stay (fun c v hc q=>k c v ?_ q) (fun c q=>by rw[jaj (jas q hn)];exact q) fun c xs q=>by rw[jaj (jas q hn)];exact q
   rcases hc with z|z
   ·rw[z];exact nf b u e
   ·exact nf c _ z
theorem Inv.spun0{fp:List Addr}{h':Heap}{t':Nat}(I:Inv X pins σ H s)(hf:∀ b∈fp,FpOk X pins H b)(k:∀ b o,b∉fp→s.heap.get? b=some o→h'.get? b=some o):Inv X pins σ H { s with heap:=h',toks:=t' }:=by
 have nf:∀ b u,H b=some u→b∉fp:=fun b u e z=>by rw[(hf b z).1] at e;cases e
 refine I.step (g':=s.gens) (d':=s.drawn) (ch:=fp) (fun b hb=>?_) (fun b o _ _ hc e _=>k b o hc e) (fun b o _ _ hc e _=>⟨o.slots,k b o hc e⟩) (fun b o _ e n=>n)
  (fun b o hc e=>⟨o,k b o hc e⟩) (fun b xs e=>e) (fun b o u e=>e) (fun b ps e=>⟨#[],by rw[e];simp⟩) (fun m hm=>?_) (fun b u e=>?_) I.bare
 ·obtain⟨_,f1,_,f3,f4,f5⟩:=hf b hb
  exact⟨f3,f1,f4,f5⟩
 ·obtain⟨o,es,ep,ho,r⟩:=hm
  exact⟨o,es,ep,k _ o (fun z=>(hf _ z).2.1 rfl) ho,r⟩
 ·refine (I.hok b u e).stay (fun c v hc q=>k c v ?_ q) (fun c q=>q) fun c xs q=>q
  rcases hc with z|z
  ·rw[z];exact nf b u e
  ·exact nf c _ z
noncomputable def SqV(k:Bool)(K:PySem.W.Frag)(H:Hp)(l:Addr)(xs:List V):Prop:=if k=true then SqT K H l xs else SqL K H l xs
theorem Inv.src{k:Bool}{l:Addr}{xs:List V}(I:Inv X pins σ H s)(h:SqV k X.K H l xs):∃ its:List Value,Vals xs its∧SrcOn k s.heap l its.toArray∧xs.length≤sizeLine:=by
 cases k with
 | true =>
  obtain⟨its,r,p,z⟩:=I.tuple (h:SqT X.K H l xs)
  exact⟨its,r,p,z⟩
 | false =>
  obtain⟨its,r,p,z⟩:=I.list (h:SqL X.K H l xs)
  exact⟨its,r,p.isList,z⟩
theorem Inv.src_inj{k:Bool}{l:Addr}{xs ys:List V}(I:Inv X pins σ H s)(h:SqV k X.K H l xs)(h':SqV k X.K H l ys):xs=ys:=by
 cases k with
 | true=>exact I.tuple_inj (h:SqT X.K H l xs) h'
 | false=>exact I.list_inj (h:SqL X.K H l xs) h'
theorem jer{k:Bool}{l:Addr}{xs:List V}(I:Inv X pins σ H s)(h:SqV k X.K H l xs){b:Addr}(f:FpOk X pins H b):l≠b:=by
 intro e
 subst e
 obtain⟨f0,f1,f2,f3,_⟩:=f
 have base:∀ o,X.K.lookup l=some o→False:=fun o q=>by
  have hb:=I.ok.mod.kin l o q
  rcases f3 with z|z
  ·exact I.ok.noex l o hb z
  ·exact absurd (Nat.lt_of_lt_of_le (Heap.lt_size hb) (Nat.le_trans I.ok.bsz z)) (Nat.lt_irrefl _)
 cases k with
 | true =>
  rcases (h:SqT X.K H l xs) with q|⟨o,its,n,q,_⟩
  ·rcases q with q|⟨o,q⟩<;>(rw[f0] at q;cases q)
  ·exact base o q
 | false =>
  rcases (h:SqL X.K H l xs) with q|⟨o,its,n,q,_⟩
  ·rcases q with q|⟨o,q⟩<;>(rw[f0] at q;cases q)
  ·exact base o q
end
noncomputable def Itz(k1 k2:Bool)(K:PySem.W.Frag)(l1 l2:Addr):It :=
  ⟨fun i H=>∃ xs ys x y,SqV k1 K H l1 xs∧SqV k2 K H l2 ys∧xs[i]? = some x∧ys[i]? = some y,
   fun i H v H'=>∃ T x y,H T=none∧v=.ref T∧H'=upd H T (.tup [x,y])∧(∀ xs,SqV k1 K H l1 xs→xs[i]? = some x)∧(∀ ys,SqV k2 K H l2 ys→ys[i]? = some y),
   fun i H=>∃ xs ys,SqV k1 K H l1 xs∧SqV k2 K H l2 ys∧(xs.length≤i∨ys.length≤i)⟩
theorem jtu{P:Program}{w:World}{K:PySem.W.Frag}{es:List Expr}{kk:Nat}{tp:Pos}(k1 k2:Bool)(l1 l2 z TI TO i1 i2:Addr)(D:ZFar z TI TO i1 i2) :
  Turn P w K (.Tuple es kk tp) (Itz k1 k2 K l1 l2) [z,TI,TO,i1,i2] z (fun i h=>IsZip h z TI TO .none∧IsPair h TI (.ref i1) (.ref i2)∧(∃ a b,IsPair h TO a b)∧ItOn k1 h i1 l1 i∧ItOn k2 h i2 l2 i) where
 mem:=by simp
 obj:=fun i h st b hb=>by
  obtain⟨q1,q2,⟨a,b',q3⟩,q4,q5⟩:=st
  simp only[List.mem_cons,List.not_mem_nil,or_false] at hb
  rcases hb with rfl|rfl|rfl|rfl|rfl
  ·exact⟨_,q1,fun v e=>nomatch e⟩
  ·exact⟨_,q2,fun v e=>nomatch e⟩
  ·exact⟨_,q3,fun v e=>nomatch e⟩
  ·obtain⟨o,vs,e,d⟩:=q4.ob;exact⟨o,e,fun v z=>by rw[d] at z;cases z⟩
  ·obtain⟨o,vs,e,d⟩:=q5.ob;exact⟨o,e,fun v z=>by rw[d] at z;cases z⟩
 keep:=fun i h h' st k=>by
  obtain⟨q1,q2,⟨a,b',q3⟩,q4,q5⟩:=st
  exact⟨k z (by simp) _ q1,k TI (by simp) _ q2,⟨a,b',k TO (by simp) _ q3⟩,q4.mv fun o e=>k i1 (by simp) o e,q5.mv fun o e=>k i2 (by simp) o e⟩
 item:=by
  intro X hP hw hK hc i pins s σ H E I hf st hg
  subst hP hw hK
  obtain⟨q1,q2,⟨a,b',q3⟩,q4,q5⟩:=st
  obtain⟨xs,ys,x,y,sx,sy,hx,hy⟩:=hg
  obtain⟨ix,rx,cx,_⟩:=I.src sx
  obtain⟨iy,ry,cy,_⟩:=I.src sy
  obtain⟨u,hu,ru⟩:=rx.get hx
  obtain⟨v,hv,rv⟩:=ry.get hy
  have far:∀ {k:Bool} {l:Addr} {xs:List V},SqV k X.K H l xs→LFar z TO i1 i2 l:=fun h=>⟨jer I h (hf z (by simp)),jer I h (hf TO (by simp)),jer I h (hf i1 (by simp)),jer I h (hf i2 (by simp))⟩
  refine js5 D (far sx) (far sy) q1 q2 q3 q4 q5 cx cy (x:=u) (y:=v) (by simpa using hu) (by simpa using hv) fun h' b1 b2 b3 b4 b5 b6=>⟨_,rfl,?_⟩
  have keep:∀ b o,b∉[z,TI,TO,i1,i2]→s.heap.get? b=some o→h'.get? b=some o:=fun b o hb e=>by
   simp only[List.mem_cons,List.not_mem_nil,or_false,not_or] at hb
   exact b6 b o hb.1 hb.2.2.1 hb.2.2.2.1 hb.2.2.2.2 e
  have e2:IsPair h' TI (.ref i1) (.ref i2):=b6 TI _ D.a1 D.a5 D.a6 D.a7 q2
  have hfr:H s.heap.objs.size=none:=I.hok.fresh (Nat.le_refl _)
  have hno:s.heap.get? s.heap.objs.size=none:=Heap.get?_none_of_le (Nat.le_refl _)
  have Tz:s.heap.objs.size≠z:=Nat.ne_of_gt (Heap.lt_size q1)
  refine wpAny_letOwnedTupleGo_zip b1 fun h2 z2 s2=>?_
  have up2:∀ b o,b≠z→h'.get? b=some o→h2.get? b=some o:=fun b o hb e=>s2.extBut _ _ hb e
  have keep2:∀ b o,b∉[z,TI,TO,i1,i2]→s.heap.get? b=some o→h2.get? b=some o:=fun b o hb e=>up2 b o (fun q=>hb (by simp[q])) (keep b o hb e)
  have tu:IsTup h2 s.heap.objs.size [u,v].toArray:=⟨_,up2 _ _ Tz b5,rfl,0,rfl⟩
  have I2:Inv X pins σ (upd H s.heap.objs.size (.tup [x,y])) { s with heap:=h2 }:=I.spun (t':=s.toks) hf keep2 (fun b hb=>by
   simp only[List.mem_cons,List.not_mem_nil,or_false] at hb
   rcases hb with rfl|rfl|rfl|rfl|rfl
   ·exact⟨_,z2⟩
   ·exact⟨_,up2 _ _ D.a1 e2⟩
   ·exact⟨_,up2 _ _ D.a2 b2⟩
   ·obtain⟨o,vs,e,_⟩:=b3.ob;exact⟨o,up2 _ _ D.a3 e⟩
   ·obtain⟨o,vs,e,_⟩:=b4.ob;exact⟨o,up2 _ _ D.a4 e⟩) hno hfr (.cons ru (.cons rv .nil)) (by show 2≤sizeLine;decide) tu
  refine⟨.ref s.heap.objs.size,_,I2,rfl,⟨_,x,y,hfr,rfl,rfl,fun xs' h=>by rw[I.src_inj h sx];exact hx,fun ys' h=>by rw[I.src_inj h sy];exact hy⟩,?_,fun b hb=>?_⟩
  ·exact⟨z2,up2 _ _ D.a1 e2,⟨_,_,up2 _ _ D.a2 b2⟩,b3.mv fun o e=>up2 _ o D.a3 e,b4.mv fun o e=>up2 _ o D.a4 e⟩
  ·have:b≠s.heap.objs.size:=fun q=>by
    subst q
    simp only[List.mem_cons,List.not_mem_nil,or_false] at hb
    rcases hb with q|q|q|q|q
    ·exact Tz q
    ·exact absurd (Heap.lt_size q2) (by rw[q];exact Nat.lt_irrefl _)
    ·exact absurd (Heap.lt_size q3) (by rw[q];exact Nat.lt_irrefl _)
    ·obtain⟨o,vs,e,_⟩:=q4.ob;exact absurd (Heap.lt_size e) (by rw[q];exact Nat.lt_irrefl _)
    ·obtain⟨o,vs,e,_⟩:=q5.ob;exact absurd (Heap.lt_size e) (by rw[q];exact Nat.lt_irrefl _)
   rw[jaj this]
   exact (hf b hb).1
 done:=by
  intro X hP hw hK hc i pins s σ H E I hf st hg
  subst hP hw hK
  obtain⟨q1,q2,⟨a,b',q3⟩,q4,q5⟩:=st
  obtain⟨xs,ys,sx,sy,hend⟩:=hg
  obtain⟨ix,rx,cx,_⟩:=I.src sx
  obtain⟨iy,ry,cy,_⟩:=I.src sy
  have far:∀ {k:Bool} {l:Addr} {xs:List V},SqV k X.K H l xs→LFar z TO i1 i2 l:=fun h=>⟨jer I h (hf z (by simp)),jer I h (hf TO (by simp)),jer I h (hf i1 (by simp)),jer I h (hf i2 (by simp))⟩
  have lx:=rx.length
  have ly:=ry.length
  refine jko (I.ok.hd hc) D (far sx) (far sy) q1 q2 q3 q4 q5 cx cy ?_ fun h' k=>⟨rfl,I.spun0 (t':=s.toks) hf fun b o hb e=>?_⟩
  ·rcases hend with h|h
   ·exact .inl (by simp;omega)
   ·exact .inr (by simp;omega)
  ·simp only[List.mem_cons,List.not_mem_nil,or_false,not_or] at hb
   exact k b o hb.1 hb.2.2.1 hb.2.2.2.1 hb.2.2.2.2 e
 self:=fun _ _ _ _ _ st h=>wpAny_pyIter_zip st.1 h
theorem zfar(n:Nat):ZFar (n+4) (n+2) (n+3) n (n+1):=⟨show (n+2:Nat)≠n+4 by omega,show (n+3:Nat)≠n+4 by omega,show (n:Nat)≠n+4 by omega,show (n+1:Nat)≠n+4 by omega,show (n+2:Nat)≠n+3 by omega,
 show (n+2:Nat)≠n by omega,show (n+2:Nat)≠n+1 by omega,show (n+3:Nat)≠n by omega,show (n+3:Nat)≠n+1 by omega,show (n:Nat)≠n+1 by omega⟩
section
variable {X:Cx}
noncomputable def iZip(K:PySem.W.Frag)(ta:TA):TI:=fun σ H R=>ta σ H fun vs H1=>∃ k1 k2 l1 l2 xs ys,vs=[.ref l1,.ref l2]∧SqV k1 K H1 l1 xs∧SqV k2 K H1 l2 ys∧R (Itz k1 k2 K l1 l2) H1
theorem jqx{a b:Expr}{ta:TA}{es:List Expr}{kk:Nat}{tp p pos:Pos}(hg:Gl X "zip")(hm:X.mg "zip"=none)(ha:PA X [a,b] ta)(hs:autoParam (starEach [a,b] X.env=[(false,eval a X.env),(false,eval b X.env)]) zau2._auto_1)(hs2:autoParam (starEach [b] X.env=[(false,eval b X.env)]) zau2._auto_1) :
  PI X (.Tuple es kk tp) (.Call (.Name "zip" p) [a,b] [] pos) (iZip X.K ta):=by
 intro pins s σ H R I h
 refine Call_ (jhf I hg hm boot_zip (PyProof.Rows.callWith_type1 (thn (ha pos pins s σ H _ I h) fun us s1 hzz=>?_) (by rw[hs,hs2]) (by rw[hs2];rfl)))
 obtain⟨vs,H1,I1,r1,q1⟩:=hzz
 obtain⟨k1,k2,l1,l2,xs,ys,e,sx,sy,q⟩:=q1
 subst e
 obtain⟨u1,u2,rfl,e1,e2⟩:=r1.two
 cases e1
 cases e2
 obtain⟨ix,rx,cx,_⟩:=I1.src sx
 obtain⟨iy,ry,cy,_⟩:=I1.src sy
 refine callType_new F.called_zip (by decide) (F.typeCall_zip_2 _ _) (F.newCall_zip_2 _ _) (fun obj=>F.args_object_init_3 obj _ _) F.entry_zip_new (jqf l1 l2 ix.toArray iy.toArray) ⟨cx,cy,fun o1 o2 w1 w2=>?_⟩
 have n1:(s1.heap.push o1).objs.size=s1.heap.objs.size+1:=Heap.size_push ..
 have n2:(zA s1.heap o1 o2).objs.size=s1.heap.objs.size+2:=by show (Heap.push _ _).objs.size=_;rw[Heap.size_push,n1]
 have n3:(zB s1.heap o1 o2).objs.size=s1.heap.objs.size+3:=by show (Heap.push _ _).objs.size=_;rw[Heap.size_push,n2]
 have n4:(zC s1.heap o1 o2).objs.size=s1.heap.objs.size+4:=by show (Heap.push _ _).objs.size=_;rw[Heap.size_push,n3]
 have g5:(zD s1.heap o1 o2).get? (zC s1.heap o1 o2).objs.size=some _:=Heap.get?_push_size _ rfl
 have g4:(zD s1.heap o1 o2).get? (zB s1.heap o1 o2).objs.size=some _:=Heap.get?_push_of_some _ (Heap.get?_push_size _ rfl)
 have g3:(zD s1.heap o1 o2).get? (zA s1.heap o1 o2).objs.size=some _:=Heap.get?_push_of_some _ (Heap.get?_push_of_some _ (Heap.get?_push_size _ rfl))
 have kk2:∀ c o,(zA s1.heap o1 o2).get? c=some o→(zD s1.heap o1 o2).get? c=some o:=fun c o e=>Heap.get?_push_of_some _ (Heap.get?_push_of_some _ (Heap.get?_push_of_some _ e))
 have kk1:∀ c o,(s1.heap.push o1).get? c=some o→(zD s1.heap o1 o2).get? c=some o:=fun c o e=>kk2 c o (Heap.get?_push_of_some _ e)
 have kk0:∀ c o,s1.heap.get? c=some o→(zD s1.heap o1 o2).get? c=some o:=fun c o e=>kk1 c o (Heap.get?_push_of_some _ e)
 rw[n1] at w2 g3
 rw[n2] at g3
 rw[n3] at g4
 rw[n4,n2,n3] at g5
 show _∧_
 rw[n4]
 refine⟨⟨_,g5,rfl⟩,wpAny_pyIter_zip g5 ?_⟩
 have D:ZFar (s1.heap.objs.size+4) (s1.heap.objs.size+2) (s1.heap.objs.size+3) s1.heap.objs.size (s1.heap.objs.size+1):=zfar _
 refine⟨s1.heap.objs.size+4,[s1.heap.objs.size+4,s1.heap.objs.size+2,s1.heap.objs.size+3,s1.heap.objs.size,s1.heap.objs.size+1],_,_,H1,rfl,I1.kept (t':=s1.toks) fun c o e=>kk0 c o e,
  jtu k1 k2 l1 l2 _ _ _ _ _ D,⟨g5,g3,⟨_,_,g4⟩,w1.mv fun o e=>kk1 _ o e,w2.mv fun o e=>kk2 _ o e⟩,fun b hb=>?_,q⟩
 have hb':s1.heap.objs.size≤b:=by
  simp only[List.mem_cons,List.not_mem_nil,or_false] at hb
  show (s1.heap.objs.size:Nat)≤(b:Nat)
  have hb2:(b:Nat)=b:=rfl
  rcases hb with q|q|q|q|q<;>(rw[q];first|exact Nat.le_refl _|exact Nat.le_add_right _ _)
 exact I1.fpOk hb' (I1.hok.fresh hb')
end
noncomputable def Ite(K:PySem.W.Frag)(l:Addr):It :=
  ⟨fun i H=>∃ xs x,SqL K H l xs∧xs[i]? = some x,
   fun i H v H'=>∃ T x,H T=none∧v=.ref T∧H'=upd H T (.tup [.int i,x])∧(∀ xs,SqL K H l xs→xs[i]? = some x),
   fun i H=>∃ xs,SqL K H l xs∧xs.length≤i⟩
theorem jri{P:Program}{w:World}{K:PySem.W.Frag}{es:List Expr}{kk:Nat}{tp:Pos}(l e it:Addr)(D:e≠it) :
  Turn P w K (.Tuple es kk tp) (Ite K l) [e,it] e (fun i h=>(∃ old,IsEnum h e it i old)∧h.IsListIter it l i) where
 mem:=by simp
 obj:=fun i h st b hb=>by
  obtain⟨⟨old,q1⟩,o,q2,_,q3⟩:=st
  simp only[List.mem_cons,List.not_mem_nil,or_false] at hb
  rcases hb with rfl|rfl
  ·exact⟨_,q1,fun v e=>nomatch e⟩
  ·exact⟨o,q2,fun v z=>by rw[q3] at z;cases z⟩
 keep:=fun i h h' st k=>by
  obtain⟨⟨old,q1⟩,q2⟩:=st
  exact⟨⟨old,k e (by simp) _ q1⟩,q2.at fun o z=>k it (by simp) o z⟩
 item:=by
  intro X hP hw hK hc i pins s σ H E I hf st hg
  subst hP hw hK
  obtain⟨⟨old,q1⟩,q2⟩:=st
  obtain⟨xs,x,sx,hx⟩:=hg
  obtain⟨ix,rx,cx,_⟩:=I.list sx
  obtain⟨u,hu,ru⟩:=rx.get hx
  refine wpAny_pyNext_enum_item q1 q2 cx.isList (x:=u) (by simpa using hu) D fun h' b1 b2 b3 b4 b5=>⟨_,rfl,?_⟩
  have hfr:H s.heap.objs.size=none:=I.hok.fresh (Nat.le_refl _)
  have hno:s.heap.get? s.heap.objs.size=none:=Heap.get?_none_of_le (Nat.le_refl _)
  have Te:s.heap.objs.size≠e:=Nat.ne_of_gt (Heap.lt_size q1)
  have Ti:s.heap.objs.size≠it:=by obtain⟨o,q,_⟩:=q2;exact Nat.ne_of_gt (Heap.lt_size q)
  refine wpAny_letOwnedTupleGo_enum b1 fun h2 e2 s2=>?_
  have up2:∀ b o,b≠e→h'.get? b=some o→h2.get? b=some o:=fun b o hb z=>s2.extBut _ _ hb z
  have keep2:∀ b o,b∉[e,it]→s.heap.get? b=some o→h2.get? b=some o:=fun b o hb z=>by
   simp only[List.mem_cons,List.not_mem_nil,or_false,not_or] at hb
   exact up2 b o hb.1 (b5 b o hb.1 hb.2 z)
  have tu:IsTup h2 s.heap.objs.size [.int i s.toks,u].toArray:=⟨_,up2 _ _ Te b3,rfl,0,rfl⟩
  have i2:h2.IsListIter it l (i+1):=b2.at fun o z=>up2 _ o D.symm z
  have I2:Inv X pins σ (upd H s.heap.objs.size (.tup [.int i,x])) { s with heap:=h2,toks:=s.toks+1 }:=I.spun hf keep2 (fun b hb=>by
   simp only[List.mem_cons,List.not_mem_nil,or_false] at hb
   rcases hb with rfl|rfl
   ·exact⟨_,e2⟩
   ·obtain⟨o,q,_⟩:=i2;exact⟨o,q⟩) hno hfr (.cons ⟨_,rfl⟩ (.cons ru .nil)) (by show 2≤sizeLine;decide) tu
  refine⟨.ref s.heap.objs.size,_,I2,rfl,⟨_,x,hfr,rfl,rfl,fun xs' h=>by rw[I.list_inj h sx];exact hx⟩,⟨⟨u,by have:=e2;simpa using this⟩,i2⟩,fun b hb=>?_⟩
  have:b≠s.heap.objs.size:=fun q=>by
   subst q
   simp only[List.mem_cons,List.not_mem_nil,or_false] at hb
   rcases hb with q|q
   ·exact Te q
   ·exact Ti q
  rw[jaj this]
  exact (hf b hb).1
 done:=by
  intro X hP hw hK hc i pins s σ H E I hf st hg
  subst hP hw hK
  obtain⟨⟨old,q1⟩,q2⟩:=st
  obtain⟨xs,sx,hend⟩:=hg
  obtain⟨ix,rx,cx,_⟩:=I.list sx
  have lx:=rx.length
  refine wpAny_pyNext_enum_end (I.ok.hd hc) q1 q2 cx.isList (by simp;omega) fun h' k=>⟨rfl,I.spun0 (t':=s.toks) hf fun b o hb z=>?_⟩
  simp only[List.mem_cons,List.not_mem_nil,or_false,not_or] at hb
  exact k b o hb.2 z
 self:=fun _ _ _ _ _ st h=>by obtain⟨⟨old,q1⟩,_⟩:=st;exact wpAny_pyIter_enum q1 h
section
variable {X:Cx}
noncomputable def jBt(K:PySem.W.Frag)(ta:TA):TI:=fun σ H R=>ta σ H fun vs H1=>∃ l xs,vs=[.ref l]∧SqL K H1 l xs∧R (Ite K l) H1
theorem jqw{a:Expr}{ta:TA}{es:List Expr}{kk:Nat}{tp p pos:Pos}(hg:Gl X "enumerate")(hm:X.mg "enumerate"=none)(ha:PA X [a] ta)(hs:autoParam (starEach [a] X.env=[(false,eval a X.env)]) zau2._auto_1) :
  PI X (.Tuple es kk tp) (.Call (.Name "enumerate" p) [a] [] pos) (jBt X.K ta):=by
 intro pins s σ H R I h
 refine Call_ (jhf I hg hm boot_enumerate (PyProof.Rows.callWith_type1 (thn (ha pos pins s σ H _ I h) fun us s1 hzz=>?_) hs rfl))
 obtain⟨vs,H1,I1,r1,q1⟩:=hzz
 obtain⟨l,xs,e,sx,q⟩:=q1
 subst e
 obtain⟨u,rfl,e1⟩:=r1.one
 cases e1
 obtain⟨ix,rx,cx,_⟩:=I1.list sx
 refine call_enumerate_list cx.isList fun h' b1 b2 b3 b4=>wpAny_pyIter_enum b1 ?_
 refine⟨s1.heap.objs.size+1,[s1.heap.objs.size+1,s1.heap.objs.size],_,_,H1,rfl,I1.kept (t':=s1.toks) fun c o e=>b4 c o e,jri l _ _ (show (s1.heap.objs.size+1:Nat)≠s1.heap.objs.size by omega),⟨⟨_,b1⟩,b2⟩,fun b hb=>?_,q⟩
 have hb':s1.heap.objs.size≤b:=by
  simp only[List.mem_cons,List.not_mem_nil,or_false] at hb
  rcases hb with q|q<;>(rw[q];first|exact Nat.le_refl _|exact Nat.le_add_right _ _)
 exact I1.fpOk hb' (I1.hok.fresh hb')
end
end L2
namespace DL
open PySem PySem.Spec L2
inductive D where
 | non|bl (b:Bool)|int (i:Int)|str (x:Str)|ty (n:String)|obj (i:Nat)|tup (xs:List D)|lst (xs:List D)
structure XD where
 cls:Str
 fs:List (Str×D)
noncomputable abbrev M(α:Type):=Option (Except XD α)
noncomputable def M.b{α β:Type}(m:M α)(f:α→M β):M β:=match m with
 | none=>none
 | some (.error x)=>some (.error x)
 | some (.ok a)=>f a
noncomputable def M.p{α:Type}(a:α):M α:=some (.ok a)
noncomputable def M.o{α:Type}:Option α→M α
 | none=>none
 | some a=>some (.ok a)
inductive M.BInv{α β:Type}(m:M α)(f:α→M β)(r:Except XD β):Prop
 | ok (a:α) (h1:m=some (.ok a)) (h2:f a=some r)
 | err (x:XD) (h1:m=some (.error x)) (h2:r=.error x)
theorem M.b_inv{α β:Type}{m:M α}{f:α→M β}{r:Except XD β}(h:m.b f=some r):M.BInv m f r:=by
 cases m with
 | none=>cases h
 | some e =>
  cases e with
  | error x=>exact .err x rfl (Option.some.inj h).symm
  | ok a=>exact .ok a rfl h
theorem M.o_inv{α:Type}{m:Option α}{r:Except XD α}(h:M.o m=some r):∃ a,m=some a∧r=.ok a:=by
 cases m with
 | none=>cases h
 | some a=>exact⟨a,rfl,(Option.some.inj h).symm⟩
@[simp] theorem M.b_ok{α β:Type}(a:α)(f:α→M β):M.b (some (.ok a)) f=f a:=rfl
@[simp] theorem M.b_p{α β:Type}(a:α)(f:α→M β):M.b (M.p a) f=f a:=rfl
@[simp] theorem M.b_err{α β:Type}(x:XD)(f:α→M β):M.b (some (.error x)) f=some (.error x):=rfl
@[simp] theorem M.o_some{α:Type}(a:α):M.o (some a)=M.p a:=rfl
noncomputable abbrev Rho:=Nat→Option Addr
mutual
noncomputable def Rep(ρ:Rho)(K:PySem.W.Frag)(H:Hp):D→V→Prop
 | .non,v=>v=.non
 | .bl b,v=>v=.bl b
 | .int i,v=>v=.int i
 | .str x,v=>v=.str x
 | .ty n,v=>v=.ty n
 | .obj i,v=>∃ a,ρ i=some a∧v=.ref a
 | .tup ds,v=>∃ a xs,v=.ref a∧SqT K H a xs∧Reps ρ K H ds xs
 | .lst ds,v=>∃ a xs,v=.ref a∧SqL K H a xs∧Reps ρ K H ds xs
noncomputable def Reps(ρ:Rho)(K:PySem.W.Frag)(H:Hp):List D→List V→Prop
 | [],xs=>xs=[]
 | d::ds,xs=>∃ v vs,xs=v::vs∧Rep ρ K H d v∧Reps ρ K H ds vs
end
variable {ρ:Rho}{K:PySem.W.Frag}{H H':Hp}
theorem jrc{a:Addr}{u:HO}(e:Same H H')(h:Rd H a u):Rd H' a u:=by
 rcases h with h|⟨o,h⟩
 ·exact .inl (e a _ h)
 ·exact .inr ⟨o,e a _ h⟩
theorem jc1{a:Addr}{xs:List V}(e:Same H H')(h:SqL K H a xs):SqL K H' a xs:=h.imp (jrc e) id
theorem jcy{a:Addr}{xs:List V}(e:Same H H')(h:SqT K H a xs):SqT K H' a xs:=h.imp (jrc e) id
mutual
theorem Rep.mono(e:Same H H'):∀ {d:D} {v:V},Rep ρ K H d v→Rep ρ K H' d v
 | .non,_,h=>by unfold Rep at h ⊢;exact h
 | .bl _,_,h=>by unfold Rep at h ⊢;exact h
 | .int _,_,h=>by unfold Rep at h ⊢;exact h
 | .str _,_,h=>by unfold Rep at h ⊢;exact h
 | .ty _,_,h=>by unfold Rep at h ⊢;exact h
 | .obj _,_,h=>by unfold Rep at h ⊢;exact h
 | .tup _,_,h=>by
  unfold Rep at h ⊢
  obtain⟨a,xs,q1,q2,q3⟩:=h
  exact⟨a,xs,q1,jcy e q2,Reps.mono e q3⟩
 | .lst _,_,h=>by
  unfold Rep at h ⊢
  obtain⟨a,xs,q1,q2,q3⟩:=h
  exact⟨a,xs,q1,jc1 e q2,Reps.mono e q3⟩
theorem Reps.mono(e:Same H H'):∀ {ds:List D} {vs:List V},Reps ρ K H ds vs→Reps ρ K H' ds vs
 | [],_,h=>by unfold Reps at h ⊢;exact h
 | _::_,_,h=>by
  unfold Reps at h ⊢
  obtain⟨v,vs,q1,q2,q3⟩:=h
  exact⟨v,vs,q1,Rep.mono e q2,Reps.mono e q3⟩
end
theorem reps_nil{vs:List V}:Reps ρ K H [] vs↔vs=[]:=by unfold Reps;exact Iff.rfl
theorem reps_cons{d:D}{ds:List D}{vs:List V}:Reps ρ K H (d::ds) vs↔∃ v r,vs=v::r∧Rep ρ K H d v∧Reps ρ K H ds r:=by
 conv=>lhs;unfold Reps
theorem Reps.cons{d:D}{ds:List D}{v:V}{vs:List V}(h:Rep ρ K H d v)(t:Reps ρ K H ds vs):Reps ρ K H (d::ds) (v::vs):=reps_cons.mpr ⟨v,vs,rfl,h,t⟩
theorem Reps.nil:Reps ρ K H [] []:=reps_nil.mpr rfl
theorem Reps.length:∀ {ds:List D} {vs:List V},Reps ρ K H ds vs→vs.length=ds.length
 | [],_,h=>by rw[reps_nil.mp h];rfl
 | _::_,_,h=>by
  obtain⟨v,r,rfl,_,t⟩:=reps_cons.mp h
  simp[Reps.length t]
theorem Reps.get:∀ {ds:List D} {vs:List V} {i:Nat} {d:D},Reps ρ K H ds vs→ds[i]? = some d→∃ v,vs[i]? = some v∧Rep ρ K H d v
 | [],_,_,_,_,e=>by simp at e
 | _::_,_,0,_,h,e=>by
  obtain⟨v,r,rfl,q,_⟩:=reps_cons.mp h
  simp at e;subst e
  exact⟨v,rfl,q⟩
 | _::_,_,i+1,_,h,e=>by
  obtain⟨v,r,rfl,_,t⟩:=reps_cons.mp h
  obtain⟨u,q1,q2⟩:=Reps.get (i:=i) t (by simpa using e)
  exact⟨u,by simpa using q1,q2⟩
theorem Reps.append:∀ {ds es:List D} {vs us:List V},Reps ρ K H ds vs→Reps ρ K H es us→Reps ρ K H (ds++es) (vs++us)
 | [],_,_,_,h,k=>by rw[reps_nil.mp h];exact k
 | _::_,_,_,_,h,k=>by
  obtain⟨v,r,rfl,q,t⟩:=reps_cons.mp h
  exact Reps.cons q (Reps.append t k)
theorem rep_int{i:Int}{v:V}:Rep ρ K H (.int i) v↔v=.int i:=by unfold Rep;exact Iff.rfl
theorem rep_str{x:Str}{v:V}:Rep ρ K H (.str x) v↔v=.str x:=by unfold Rep;exact Iff.rfl
theorem rep_ty{n:String}{v:V}:Rep ρ K H (.ty n) v↔v=.ty n:=by unfold Rep;exact Iff.rfl
theorem rep_obj{i:Nat}{v:V}:Rep ρ K H (.obj i) v↔∃ a,ρ i=some a∧v=.ref a:=by unfold Rep;exact Iff.rfl
theorem rep_bl{b:Bool}{v:V}:Rep ρ K H (.bl b) v↔v=.bl b:=by unfold Rep;exact Iff.rfl
theorem rep_non{v:V}:Rep ρ K H .non v↔v=.non:=by unfold Rep;exact Iff.rfl
theorem rep_tup{ds:List D}{v:V}:Rep ρ K H (.tup ds) v↔∃ a xs,v=.ref a∧SqT K H a xs∧Reps ρ K H ds xs:=by conv=>lhs;unfold Rep
theorem rep_lst{ds:List D}{v:V}:Rep ρ K H (.lst ds) v↔∃ a xs,v=.ref a∧SqL K H a xs∧Reps ρ K H ds xs:=by conv=>lhs;unfold Rep
theorem reps_ints:∀ {ns:List Int} {vs:List V},Reps ρ K H (ns.map .int) vs↔vs=ns.map V.int
 | [],vs=>reps_nil
 | n::ns,vs=>by
  rw[List.map_cons,reps_cons]
  constructor
  ·rintro⟨v,r,rfl,h1,h2⟩
   rw[rep_int.mp h1,reps_ints.mp h2];rfl
  ·rintro rfl
   exact⟨_,_,rfl,rep_int.mpr rfl,reps_ints.mpr rfl⟩
noncomputable def hid(H:Hp)(G:Addr→Bool):Hp:=fun b=>if G b=true then none else H b
theorem hid_some{G:Addr→Bool}{b:Addr}{o:HO}:hid H G b=some o↔G b=false∧H b=some o:=by
 unfold hid
 cases e:G b<;>simp
theorem jaf{G:Addr→Bool}(e:Same H H'):Same (hid H G) (hid H' G):=fun b o h=>by
 obtain⟨q1,q2⟩:=hid_some.mp h
 exact hid_some.mpr ⟨q1,e b o q2⟩
theorem jcr{G G':Addr→Bool}(h:∀ b,G' b=true→G b=true):Same (hid H G) (hid H G'):=fun b o q=>by
 obtain⟨q1,q2⟩:=hid_some.mp q
 refine hid_some.mpr ⟨?_,q2⟩
 cases e:G' b with
 | false=>rfl
 | true=>rw[h b e] at q1;cases q1
theorem jan{G:Addr→Bool}:Same (hid H G) H:=fun b o q=>(hid_some.mp q).2
theorem jcz{G:Addr→Bool}{a:Addr}{o:HO}(h:G a=true):hid (upd H a o) G=hid H G:=by
 funext b
 unfold hid upd
 by_cases e:b=a
 ·subst e;rw[if_pos h,if_pos h]
 ·rw[if_neg e]
theorem jal{p:Addr}{o:HO}(h:H p=none):Same H (upd H p o):=fun b u e=>by rw[jaj (jas e h)];exact e
theorem jeq{H₀:Hp}{p:Addr}{o:HO}(e:Same H₀ H)(h:H₀ p=none):Same H₀ (upd H p o):=fun b u q=>by rw[jaj (jas q h)];exact e b u q
noncomputable abbrev DSt:=List (Option D)
noncomputable def jw1:Option (Option V)→Option Addr
 | some (some (.ref a))=>some a
 | _=>none
theorem job{o:Option (Option V)}{a:Addr}:jw1 o=some a↔o=some (some (.ref a)):=by
 constructor
 ·intro h
  unfold jw1 at h
  split at h
  ·cases h;rfl
  ·cases h
 ·rintro rfl;rfl
noncomputable def ownA(σ:St):List Nat→List Addr
 | []=>[]
 | i::O=>(jw1 σ[i]?).toList++ownA σ O
theorem jsy{σ:St}{O:List Nat}{a:Addr}:a∈ownA σ O↔∃ i∈O,σ[i]? = some (some (.ref a)):=by
 induction O with
 | nil=>simp[ownA]
 | cons j O ih =>
  unfold ownA
  rw[List.mem_append,ih,Option.mem_toList,job]
  constructor
  ·rintro (h|⟨i,hi,h⟩)
   ·exact⟨j,List.mem_cons_self,h⟩
   ·exact⟨i,List.mem_cons_of_mem _ hi,h⟩
  ·rintro⟨i,hi,h⟩
   rcases List.mem_cons.mp hi with rfl|hi
   ·exact .inl h
   ·exact .inr ⟨i,hi,h⟩
noncomputable def fob(F:Addr→Bool)(σ:St)(O:List Nat):Addr→Bool:=fun b=>F b || (ownA σ O).contains b
theorem fob_t{F:Addr→Bool}{σ:St}{O:List Nat}{b:Addr}:fob F σ O b=true↔F b=true∨∃ i∈O,σ[i]? = some (some (.ref b)):=by
 unfold fob
 rw[Bool.or_eq_true,List.contains_iff_mem,jsy]
theorem ja3{F:Addr→Bool}{σ:St}:fob F σ []=F:=by
 funext b;unfold fob ownA;simp
structure RS(ρ:Rho)(K:PySem.W.Frag)(H₀ H:Hp)(F:Addr→Bool)(O:List Nat)(σ:St)(δ:DSt):Prop where
 len:σ.length=δ.length
 same:Same H₀ H
 fin:∀ b,F b=true→H b≠none
 val:∀ (i:Nat) d,δ[i]? = some (some d)→i∉O→∃ v,σ[i]? = some (some v)∧Rep ρ K (hid H (fob F σ O)) d v
 own:∀ i∈O,∃ (a:Addr) (xs:List V) (ds:List D),δ[i]? = some (some (.lst ds))∧σ[i]? = some (some (.ref a))∧H a=some (.lst xs)∧(H₀ a=none∧F a=false)∧Reps ρ K (hid H (fob F σ O)) ds xs
 nd:∀ i∈O,∀ j∈O,∀ a,σ[i]? = some (some (.ref a))→σ[j]? = some (some (.ref a))→i=j
section
variable {H₀:Hp}{F:Addr→Bool}{O:List Nat}{σ:St}{δ:DSt}
theorem jw6{b:Addr}(e:Same H H')(h:H b≠none):H' b≠none:=fun z=>by
 cases q:H b with
 | none=>exact h q
 | some o=>rw[e b o q] at z;cases z
theorem jd2{b p:Addr}{o:HO}(h:H b≠none):upd H p o b≠none:=by
 by_cases e:b=p
 ·subst e;rw[jag];exact fun z=>nomatch z
 ·rw[jaj e];exact h
theorem RS.mono(R:RS ρ K H₀ H F O σ δ)(e:Same H H'):RS ρ K H₀ H' F O σ δ :=
 ⟨R.len,R.same.trans e,fun b hb=>jw6 e (R.fin b hb),fun i d h ho=>let ⟨v,q1,q2⟩:=R.val i d h ho;⟨v,q1,q2.mono (jaf e)⟩,
  fun i hi=>let ⟨a,xs,ds,q1,q2,q3,q4,q5⟩:=R.own i hi;⟨a,xs,ds,q1,q2,e a _ q3,q4,q5.mono (jaf e)⟩,R.nd⟩
theorem RS.fresh(R:RS ρ K H₀ H F O σ δ){p:Addr}(h:H p=none):fob F σ O p=false:=by
 cases e:fob F σ O p with
 | false=>rfl
 | true =>
  rcases fob_t.mp e with q|⟨i,hi,q⟩
  ·exact absurd h (R.fin p q)
  ·obtain⟨a,xs,ds,_,q2,q3,_⟩:=R.own i hi
   rw[q] at q2;cases q2
   rw[q3] at h;cases h
theorem RS.fresh0(R:RS ρ K H₀ H F O σ δ){p:Addr}(h:H p=none):H₀ p=none:=by
 cases e0:H₀ p with
 | none=>rfl
 | some o=>rw[R.same p o e0] at h;cases h
theorem RS.thaw{O':List Nat}(R:RS ρ K H₀ H F O σ δ)(h:∀ i∈O',i∈O):RS ρ K H₀ H F O' σ δ:=by
 have le:∀ b,fob F σ O' b=true→fob F σ O b=true:=fun b q=>by
  rcases fob_t.mp q with q|⟨i,hi,q⟩
  ·exact fob_t.mpr (.inl q)
  ·exact fob_t.mpr (.inr ⟨i,h i hi,q⟩)
 refine⟨R.len,R.same,R.fin,fun i d hd ho=>?_,fun i hi=>?_,fun i hi j hj=>R.nd i (h i hi) j (h j hj)⟩
 ·by_cases hO:i∈O
  ·obtain⟨a,xs,ds,q1,q2,q3,q4,q5⟩:=R.own i hO
   rw[q1] at hd;cases hd
   refine⟨_,q2,rep_lst.mpr ⟨a,xs,rfl,SqL.of (hid_some.mpr ⟨?_,q3⟩),q5.mono (jcr le)⟩⟩
   cases e:fob F σ O' a with
   | false=>rfl
   | true =>
    rcases fob_t.mp e with z|⟨j,hj,z⟩
    ·rw[q4.2] at z;cases z
    ·exact absurd (R.nd i hO j (h j hj) a q2 z ▸ hj) ho
  ·obtain⟨v,q1,q2⟩:=R.val i d hd hO
   exact⟨v,q1,q2.mono (jcr le)⟩
 ·obtain⟨a,xs,ds,q1,q2,q3,q4,q5⟩:=R.own i (h i hi)
  exact⟨a,xs,ds,q1,q2,q3,q4,q5.mono (jcr le)⟩
theorem jck{i:Nat}{v:V}(h:i∉O):fob F (σ.set i (some v)) O=fob F σ O:=by
 have:ownA (σ.set i (some v)) O=ownA σ O:=by
  induction O with
  | nil=>rfl
  | cons j O ih =>
   unfold ownA
   rw[List.getElem?_set_ne (by rintro rfl;exact h List.mem_cons_self),ih fun z=>h (List.mem_cons_of_mem _ z)]
 unfold fob
 rw[this]
theorem RS.set(R:RS ρ K H₀ H F O σ δ){i:Nat}{d:D}{v:V}(ho:i∉O)(hr:Rep ρ K (hid H (fob F σ O)) d v):RS ρ K H₀ H F O (σ.set i (some v)) (δ.set i (some d)):=by
 have ne:∀ j∈O,j≠i:=fun j hj e=>ho (e ▸ hj)
 refine⟨by simp[R.len],R.same,R.fin,fun j e hd hj=>?_,fun j hj=>?_,fun j hj k hk a e1 e2=>?_⟩
 ·rw[jck ho]
  by_cases hji:j=i
  ·subst hji
   have hl:j<δ.length:=by
    by_cases q:j<δ.length
    ·exact q
    ·rw[List.getElem?_eq_none (by simpa using q)] at hd;cases hd
   rw[List.getElem?_set_self hl] at hd
   cases hd
   exact⟨v,List.getElem?_set_self (by rw[R.len];exact hl),hr⟩
  ·rw[List.getElem?_set_ne (Ne.symm hji)] at hd ⊢
   exact R.val j e hd hj
 ·rw[jck ho,List.getElem?_set_ne (Ne.symm (ne j hj)),List.getElem?_set_ne (Ne.symm (ne j hj))]
  exact R.own j hj
 ·rw[List.getElem?_set_ne (Ne.symm (ne j hj))] at e1
  rw[List.getElem?_set_ne (Ne.symm (ne k hk))] at e2
  exact R.nd j hj k hk a e1 e2
theorem RS.take(R:RS ρ K H₀ H F O σ δ){i:Nat}{ds:List D}{p:Addr}{xs:List V}{H1:Hp}(ho:i∉O)(hi:i<δ.length)(e:Same H H1)(hp:H1 p=none)(hr:Reps ρ K (hid H1 (fob F σ O)) ds xs) :
  RS ρ K H₀ (upd H1 p (.lst xs)) F (i::O) (σ.set i (some (.ref p))) (δ.set i (some (.lst ds))):=by
 have R1:=R.mono e
 have p0:=R1.fresh0 hp
 have pf:=R1.fresh hp
 have ne:∀ j∈O,j≠i:=fun j hj e=>ho (e ▸ hj)
 have lσ:i<σ.length:=by rw[R.len];exact hi
 have gp:∀ b,fob F (σ.set i (some (.ref p))) (i::O) b=true↔b=p∨fob F σ O b=true:=fun b=>by
  rw[fob_t,fob_t]
  constructor
  ·rintro (q|⟨j,hj,q⟩)
   ·exact .inr (.inl q)
   ·rcases List.mem_cons.mp hj with rfl|hj
    ·rw[List.getElem?_set_self lσ] at q;cases q;exact .inl rfl
    ·rw[List.getElem?_set_ne (Ne.symm (ne j hj))] at q
     exact .inr (.inr ⟨j,hj,q⟩)
  ·rintro (rfl|q|⟨j,hj,q⟩)
   ·exact .inr ⟨i,List.mem_cons_self,List.getElem?_set_self lσ⟩
   ·exact .inl q
   ·exact .inr ⟨j,List.mem_cons_of_mem _ hj,by rw[List.getElem?_set_ne (Ne.symm (ne j hj))];exact q⟩
 have eqH:hid (upd H1 p (.lst xs)) (fob F (σ.set i (some (.ref p))) (i::O))=hid H1 (fob F σ O):=by
  funext b
  by_cases hb:b=p
  ·subst hb
   unfold hid
   rw[if_pos ((gp b).mpr (.inl rfl)),hp]
   split<;>rfl
  ·unfold hid
   rw[jaj hb]
   cases q:fob F σ O b with
   | true=>rw[if_pos ((gp b).mpr (.inr q)),if_pos rfl]
   | false =>
    rw[if_neg (by rw[gp];rintro (z|z);exact hb z;rw[q] at z;cases z),if_neg (by decide)]
 refine⟨by simp[R.len],jeq R1.same p0,fun b hb=>jd2 (R1.fin b hb),fun j d hd hj=>?_,fun j hj=>?_,fun j hj k hk a e1 e2=>?_⟩
 ·have hji:j≠i:=fun z=>hj (z ▸ List.mem_cons_self)
  rw[eqH]
  rw[List.getElem?_set_ne (Ne.symm hji)] at hd ⊢
  exact R1.val j d hd fun z=>hj (List.mem_cons_of_mem _ z)
 ·rw[eqH]
  rcases List.mem_cons.mp hj with rfl|hj
  ·exact⟨p,xs,ds,List.getElem?_set_self hi,List.getElem?_set_self lσ,jag,⟨p0,by cases z:F p with|false=>rfl|true=>rw[fob_t.mpr (.inl z)] at pf;cases pf⟩,hr⟩
  ·obtain⟨a,ys,es,q1,q2,q3,q4,q5⟩:=R1.own j hj
   refine⟨a,ys,es,by rw[List.getElem?_set_ne (Ne.symm (ne j hj))];exact q1,by rw[List.getElem?_set_ne (Ne.symm (ne j hj))];exact q2,?_,q4,q5⟩
   rw[jaj (jas q3 hp)];exact q3
 ·have np:∀ j∈O,∀ a,σ[j]? = some (some (.ref a))→a≠p:=fun j hj a q z=>by
   obtain⟨a',ys,es,q1,q2,q3,q4,q5⟩:=R1.own j hj
   rw[q] at q2;cases q2
   rw[z,hp] at q3;cases q3
  rcases List.mem_cons.mp hj with rfl|hj
  ·rw[List.getElem?_set_self lσ] at e1
   cases e1
   rcases List.mem_cons.mp hk with rfl|hk
   ·rfl
   ·rw[List.getElem?_set_ne (Ne.symm (ne k hk))] at e2
    exact absurd rfl (np k hk p e2)
  ·rw[List.getElem?_set_ne (Ne.symm (ne j hj))] at e1
   rcases List.mem_cons.mp hk with hke|hk
   ·subst hke
    rw[List.getElem?_set_self lσ] at e2
    cases e2
    exact absurd rfl (np j (by assumption) p e1)
   ·rw[List.getElem?_set_ne (Ne.symm (ne k hk))] at e2
    exact R.nd j hj k hk a e1 e2
theorem RS.write(R:RS ρ K H₀ H F O σ δ){i:Nat}{a:Addr}{ds:List D}{xs:List V}(hi:i∈O)(ha:σ[i]? = some (some (.ref a)))(hr:Reps ρ K (hid H (fob F σ O)) ds xs) :
  RS ρ K H₀ (upd H a (.lst xs)) F O σ (δ.set i (some (.lst ds))):=by
 obtain⟨a',ys,es,q1,q2,q3,q4,q5⟩:=R.own i hi
 rw[ha] at q2;cases q2
 have hl:i<δ.length:=(List.getElem?_eq_some_iff.mp q1).1
 have hh:hid (upd H a (.lst xs)) (fob F σ O)=hid H (fob F σ O):=jcz (fob_t.mpr (.inr ⟨i,hi,ha⟩))
 refine⟨by simp[R.len],jeq R.same q4.1,fun b hb=>jd2 (R.fin b hb),fun j d hd hj=>?_,fun j hj=>?_,R.nd⟩
 ·have hji:j≠i:=fun z=>hj (z ▸ hi)
  rw[hh]
  rw[List.getElem?_set_ne (Ne.symm hji)] at hd
  exact R.val j d hd hj
 ·rw[hh]
  by_cases hji:j=i
  ·subst hji
   exact⟨a,xs,ds,List.getElem?_set_self hl,ha,jag,q4,hr⟩
  ·obtain⟨b,zs,fs,p1,p2,p3,p4,p5⟩:=R.own j hj
   refine⟨b,zs,fs,by rw[List.getElem?_set_ne (Ne.symm hji)];exact p1,p2,?_,p4,p5⟩
   rw[jaj (show b≠a from fun z=>hji (R.nd j hj i hi b p2 (by rw[z];exact ha)))]
   exact p3
end
noncomputable def XRep(K:PySem.W.Frag)(H:Hp)(x:XD)(c:Value)(dx:Option Addr):Prop:=False
noncomputable def okX(K:PySem.W.Frag)(H₀:Hp)(E:XK)(x:XD):Prop:=∀ c dx H',Same H₀ H'→XRep K H' x c dx→E c dx H'
inductive tD(K:PySem.W.Frag)(O:List Nat)(E:XK)(f:DSt→M D)(σ:St)(H:Hp)(Q:VK):Prop
 | mk (ρ:Rho) (H₀:Hp) (F:Addr→Bool) (δ:DSt) (r:Except XD D) (R:RS ρ K H₀ H F O σ δ) (hf:f δ=some r) (k:match (generalizing:=false) r with
  | .ok d=>∀ v H',Same H H'→Rep ρ K (hid H' (fob F σ O)) d v→Q v H'
  | .error x=>okX K H₀ E x)
noncomputable def DE(X:Cx)(O:List Nat)(E:XK)(e:Expr)(f:DSt→M D):Prop:=PE X e (tD X.K O E f)
inductive tB(K:PySem.W.Frag)(O:List Nat)(E:XK)(f:DSt→M Bool)(σ:St)(H:Hp)(Q:Bool→Hp→Prop):Prop
 | mk (ρ:Rho) (H₀:Hp) (F:Addr→Bool) (δ:DSt) (r:Except XD Bool) (R:RS ρ K H₀ H F O σ δ) (hf:f δ=some r) (k:match (generalizing:=false) r with
  | .ok b=>∀ H',Same H H'→Q b H'
  | .error x=>okX K H₀ E x)
noncomputable def DT(X:Cx)(O:List Nat)(E:XK)(e:Expr)(f:DSt→M Bool):Prop:=PT X e (tB X.K O E f)
inductive tL(K:PySem.W.Frag)(O:List Nat)(E:XK)(f:DSt→M (List D))(σ:St)(H:Hp)(Q:List V→Hp→Prop):Prop
 | mk (ρ:Rho) (H₀:Hp) (F:Addr→Bool) (δ:DSt) (r:Except XD (List D)) (R:RS ρ K H₀ H F O σ δ) (hf:f δ=some r) (k:match (generalizing:=false) r with
  | .ok ds=>∀ vs H',Same H H'→Reps ρ K (hid H' (fob F σ O)) ds vs→Q vs H'
  | .error x=>okX K H₀ E x)
noncomputable def DA(X:Cx)(O:List Nat)(E:XK)(es:List Expr)(f:DSt→M (List D)):Prop:=PA X es (tL X.K O E f)
noncomputable def fVar(i:Nat):DSt→M D:=fun δ=>M.o (δ[i]?).join
noncomputable def fC(d:D):DSt→M D:=fun _=>M.p d
noncomputable def f2(g:D→D→Option D)(fa fb:DSt→M D):DSt→M D:=fun δ=>(fa δ).b fun x=>(fb δ).b fun y=>M.o (g x y)
noncomputable def f1(g:D→Option D)(fa:DSt→M D):DSt→M D:=fun δ=>(fa δ).b fun x=>M.o (g x)
noncomputable def t2(g:D→D→Option D)(fa fb:DSt→M D):DSt→M Bool:=fun δ=>(fa δ).b fun x=>(fb δ).b fun y=>match g x y with
 | some (.bl b)=>M.p b
 | _=>none
noncomputable def fNil:DSt→M (List D):=fun _=>M.p []
noncomputable def jae(f:DSt→M D)(g:DSt→M (List D)):DSt→M (List D):=fun δ=>(f δ).b fun x=>(g δ).b fun xs=>M.p (x::xs)
noncomputable def fL(k:List D→Option D)(g:DSt→M (List D)):DSt→M D:=fun δ=>(g δ).b fun xs=>M.o (k xs)
section
variable {ρ:Rho}{X:Cx}{O:List Nat}{E:XK}{a b c e:Expr}{es:List Expr}{fa fb fc:DSt→M D}{fl:DSt→M (List D)}{pos:Pos}
theorem join_some{δ:DSt}{i:Nat}{d:D}(h:(δ[i]?).join=some d):δ[i]? = some (some d):=by
 cases e:δ[i]? with
 | none=>rw[e] at h;cases h
 | some o=>rw[e] at h;exact congrArg some h
theorem jaa(i:Nat){x:Str}(ho:autoParam (O.contains i=false) zau2._auto_1)(hN:autoParam (X.N[i]? = some x) zau2._auto_1)(hv:autoParam (Vis X.env.scope x) zau5._auto_1)
  (hd:autoParam ((x == ("__debug__":Str))=false) zau1._auto_1) (hcd:autoParam ((x == ("__classdict__":Str))=false) zau1._auto_1):DE X O E (.Name x pos) (fVar i):=by
 rintro pins s σ H Q I ⟨ρ,H₀,F,δ,r,R,hf,h⟩
 obtain⟨d,e,rfl⟩:=M.o_inv hf
 have ho':i∉O:=fun z=>by rw[List.contains_iff_mem.mpr z] at ho;cases ho
 obtain⟨v,q1,q2⟩:=R.val i d (join_some e) ho'
 exact jm9 hN hv hd hcd pins s σ H Q I ⟨v,q1,h v H (Same.refl H) q2⟩
theorem jj9{t:TE}{d:D}{v:V}(h:PE X e (tC v))(hr:∀ ρ H,Rep ρ X.K H d v):DE X O E e (fC d):=by
 rintro pins s σ H Q I ⟨ρ,H₀,F,δ,r,R,hf,k⟩
 cases hf
 exact h pins s σ H Q I (k v H (Same.refl H) (hr _ _))
theorem jai{i:Int}{j}:DE X O E (.Constant (.int i) j pos) (fC (.int i)):=jj9 (t:=tC (.int i)) jzu fun _ _=>rep_int.mpr rfl
theorem jh2{k:Bool}{j}:DE X O E (.Constant (.bool k) j pos) (fC (.bl k)):=jj9 (t:=tC (.bl k)) jB6 fun _ _=>rep_bl.mpr rfl
theorem jo8{j}:DE X O E (.Constant .none j pos) (fC .non):=jj9 (t:=tC .non) jzv fun _ _=>rep_non.mpr rfl
theorem jf6{x:Str}{j}:DE X O E (.Constant (.str x) j pos) (fC (.str x)):=jj9 (t:=tC (.str x)) jzx fun _ _=>rep_str.mpr rfl
noncomputable def OpD(K:PySem.W.Frag)(g:D→D→Option D)(r:R2):Prop:=∀ x y d,g x y=some d→∀ (ρ:Rho) (H:Hp) (G:Addr→Bool) u v (Q:VK),(∀ p,H p=none→G p=false)→Rep ρ K (hid H G) x u→Rep ρ K (hid H G) y v →
 (∀ w H',Same H H'→Rep ρ K (hid H' G) d w→Q w H')→r u v H Q
noncomputable def CaD(K:PySem.W.Frag)(g:List D→Option D)(r:List V→Hp→VK→Prop):Prop:=∀ xs d,g xs=some d→∀ (ρ:Rho) (H:Hp) (G:Addr→Bool) us (Q:VK),(∀ p,H p=none→G p=false)→Reps ρ K (hid H G) xs us →
 (∀ w H',Same H H'→Rep ρ K (hid H' G) d w→Q w H')→r us H Q
theorem jml{g:D→D→Option D}{r:R2}{σ:St}{H:Hp}{Q:VK}(hg:OpD X.K g r)(h:tD X.K O E (f2 g fa fb) σ H Q):tOp r (tD X.K O E fa) (tD X.K O E fb) σ H Q:=by
 obtain⟨ρ,H₀,F,δ,rr,R,hf,h⟩:=h
 rcases M.b_inv hf with ⟨x,e1,hf⟩|⟨x,e1,rfl⟩
 ·refine⟨ρ,H₀,F,δ,.ok x,R,e1,fun u H1 s1 r1=>?_⟩
  rcases M.b_inv hf with ⟨y,e2,hf⟩|⟨y,e2,rfl⟩
  ·refine⟨ρ,H₀,F,δ,.ok y,R.mono s1,e2,fun v H2 s2 r2=>?_⟩
   obtain⟨d,hd,rfl⟩:=M.o_inv hf
   exact hg x y d hd ρ H2 _ u v Q (fun p hp=>(R.mono (s1.trans s2)).fresh hp) (r1.mono (jaf s2)) r2 fun w H3 s3 r3=>h w H3 (s1.trans (s2.trans s3)) r3
  ·exact⟨ρ,H₀,F,δ,.error y,R.mono s1,e2,h⟩
 ·exact⟨ρ,H₀,F,δ,.error x,R,e1,h⟩
theorem ja6{op:Operator}{g:D→D→Option D}{r:R2}(ho:OpR X (binaryOp op) r)(hg:OpD X.K g r)(ha:DE X O E a fa)(hb:DE X O E b fb):DE X O E (.BinOp a op b pos) (f2 g fa fb) :=
 fun pins s σ H Q I h=>jwq ho ha hb pins s σ H Q I (jml hg h)
theorem jde{g:D→D→Option D}{r:R2}(ho:IxR X r)(hg:OpD X.K g r)(ha:DE X O E a fa)(hb:DE X O E b fb)(hs:autoParam (jgo b) zau6._auto_1):DE X O E (.Subscript a b pos) (f2 g fa fb) :=
 fun pins s σ H Q I h=>jtf ho ha hb hs pins s σ H Q I (jml hg h)
theorem jt4{op:CmpOp}{g:D→D→Option D}{r:R2}(ho:OpR X (compareOp op) r)(hg:OpD X.K g r)(ha:DE X O E a fa)(hb:DE X O E b fb)(hm:behindInMarks op b=false):DE X O E (.Compare a [op] [b] pos) (f2 g fa fb) :=
 fun pins s σ H Q I h=>jwn ho ha hb hm pins s σ H Q I (jml hg h)
theorem jf7{op:CmpOp}{g:D→D→Option D}{r:R2}(ho:OpR X (compareOp op) r)(hg:OpD X.K g r)(ha:DE X O E a fa)(hb:DE X O E b fb)(hm:behindInMarks op b=false):DT X O E (.Compare a [op] [b] pos) (t2 g fa fb):=by
 rintro pins s σ H Q I ⟨ρ,H₀,F,δ,rr,R,hf,h⟩
 refine jjm ho ha hb hm pins s σ H Q I (jml (r:=r) hg ?_)
 have key:∃ r':Except XD D,f2 g fa fb δ=some r'∧(match r',rr with|.ok d,.ok b=>d=.bl b|.error x,.error y=>x=y|_,_=>False):=by
  rcases M.b_inv hf with ⟨x,e1,hf⟩|⟨x,e1,rfl⟩
  ·rcases M.b_inv hf with ⟨y,e2,hf⟩|⟨y,e2,rfl⟩
   ·unfold f2
    rw[e1,M.b_ok,e2,M.b_ok]
    cases e3:g x y with
    | none=>rw[e3] at hf;cases hf
    | some d =>
     rw[e3] at hf
     cases d with
     | bl k=>cases hf;exact⟨_,rfl,rfl⟩
     | _=>cases hf
   ·exact⟨.error y,by unfold f2;rw[e1,M.b_ok,e2];rfl,rfl⟩
  ·exact⟨.error x,by unfold f2;rw[e1];rfl,rfl⟩
 obtain⟨r',e,q⟩:=key
 refine⟨ρ,H₀,F,δ,r',R,e,?_⟩
 cases r' with
 | error x=>cases rr with
  | error y=>cases q;exact h
  | ok _=>exact q.elim
 | ok d=>cases rr with
  | error y=>exact q.elim
  | ok k =>
   cases q
   exact fun v H' s' rv=>⟨k,rep_bl.mp rv,h H' s'⟩
theorem jam:DA X O E [] fNil:=by
 rintro p pins s σ H Q I ⟨ρ,H₀,F,δ,r,R,hf,h⟩
 cases hf
 exact jm7 p pins s σ H Q I (h [] H (Same.refl H) Reps.nil)
theorem jah(ha:DE X O E e fa)(hr:DA X O E es fl)(hs:autoParam (starEach (e::es) X.env=(false,eval e X.env)::starEach es X.env) zau2._auto_1):DA X O E (e::es) (jae fa fl):=by
 rintro p pins s σ H Q I ⟨ρ,H₀,F,δ,r,R,hf,h⟩
 refine jhs ha hr hs p pins s σ H Q I ?_
 rcases M.b_inv hf with ⟨x,e1,hf⟩|⟨x,e1,rfl⟩
 ·refine⟨ρ,H₀,F,δ,.ok x,R,e1,fun u H1 s1 r1=>?_⟩
  rcases M.b_inv hf with ⟨xs,e2,hf⟩|⟨y,e2,rfl⟩
  ·cases hf
   exact⟨ρ,H₀,F,δ,.ok xs,R.mono s1,e2,fun vs H2 s2 r2=>h (u::vs) H2 (s1.trans s2) (Reps.cons (r1.mono (jaf s2)) r2)⟩
  ·exact⟨ρ,H₀,F,δ,.error y,R.mono s1,e2,h⟩
 ·exact⟨ρ,H₀,F,δ,.error x,R,e1,h⟩
theorem jv0{k:List D→Option D}{r:List V→Hp→VK→Prop}{σ:St}{H:Hp}{Q:VK}(hg:CaD X.K k r)(h:tD X.K O E (fL k fl) σ H Q):tCB r (tL X.K O E fl) σ H Q:=by
 obtain⟨ρ,H₀,F,δ,rr,R,hf,h⟩:=h
 rcases M.b_inv hf with ⟨x,e1,hf⟩|⟨x,e1,rfl⟩
 ·refine⟨ρ,H₀,F,δ,.ok x,R,e1,fun u H1 s1 r1=>?_⟩
  obtain⟨d,hd,rfl⟩:=M.o_inv hf
  exact hg x d hd ρ H1 _ u Q (fun p hp=>(R.mono s1).fresh hp) r1 fun w H3 s3 r3=>h w H3 (s1.trans s3) r3
 ·exact⟨ρ,H₀,F,δ,.error x,R,e1,h⟩
theorem jgi{k:List D→Option D}{r:List V→Hp→VK→Prop}{x:Str}{id:String}{p:Pos}(hc:CallR X (.builtin id) r)(hg:CaD X.K k r)(hG:Gl X x)(hm:X.mg x=none)(hv:bootBuiltins x=some (.builtin id))(ha:DA X O E (e::es) fl)
  (hn:autoParam (x≠"__name__") zau1._auto_1) (hdb:autoParam ((x == ("__debug__":Str))=false) zau1._auto_1) (he:autoParam (starEach (e::es) X.env=(false,eval e X.env)::starEach es X.env) zau2._auto_1) (hpl:autoParam ((backTo pos (starEach es X.env)).any (·.1)=false) zau2._auto_1) :
  DE X O E (.Call (.Name x p) (e::es) [] pos) (fL k fl):=fun pins s σ H Q I h=>jft hc hG hm hv ha hn hdb he hpl pins s σ H Q I (jv0 hg h)
noncomputable def jeb(xs:List D):Option D:=if xs.length≤sizeLine then some (.tup xs) else none
noncomputable def jcn(xs:List D):Option D:=if xs.length≤sizeLine then some (.lst xs) else none
theorem jbc{ρ:Rho}{K:PySem.W.Frag}{H:Hp}{G:Addr→Bool}{p:Addr}{vs:List V}{ds:List D}(hp:H p=none)(hG:G p=false)(h:Reps ρ K (hid H G) ds vs):Rep ρ K (hid (upd H p (.tup vs)) G) (.tup ds) (.ref p) :=
 rep_tup.mpr ⟨p,vs,rfl,SqT.of (hid_some.mpr ⟨hG,jag⟩),h.mono (jaf (jal hp))⟩
theorem jdj{ρ:Rho}{K:PySem.W.Frag}{H:Hp}{G:Addr→Bool}{p:Addr}{vs:List V}{ds:List D}(hp:H p=none)(hG:G p=false)(h:Reps ρ K (hid H G) ds vs):Rep ρ K (hid (upd H p (.lst vs)) G) (.lst ds) (.ref p) :=
 rep_lst.mpr ⟨p,vs,rfl,SqL.of (hid_some.mpr ⟨hG,jag⟩),h.mono (jaf (jal hp))⟩
theorem jo9{x1}(h:DA X O E es fl):DE X O E (.Tuple es x1 pos) (fL jeb fl):=by
 rintro pins s σ H Q I ⟨ρ,H₀,F,δ,rr,R,hf,k⟩
 refine jkv h pins s σ H Q I ?_
 rcases M.b_inv hf with ⟨x,e1,hf⟩|⟨x,e1,rfl⟩
 ·refine⟨ρ,H₀,F,δ,.ok x,R,e1,fun u H1 s1 r1=>?_⟩
  obtain⟨d,hd,rfl⟩:=M.o_inv hf
  unfold jeb at hd
  split at hd
  ·rename_i hz
   cases hd
   exact⟨by rw[r1.length];exact hz,fun p hp=>k _ _ (s1.trans (jal hp)) (jbc hp ((R.mono s1).fresh hp) r1)⟩
  ·cases hd
 ·exact⟨ρ,H₀,F,δ,.error x,R,e1,k⟩
theorem jx1(h:DA X O E es fl):DE X O E (.List es pos) (fL jcn fl):=by
 rintro pins s σ H Q I ⟨ρ,H₀,F,δ,rr,R,hf,k⟩
 refine jku h pins s σ H Q I ?_
 rcases M.b_inv hf with ⟨x,e1,hf⟩|⟨x,e1,rfl⟩
 ·refine⟨ρ,H₀,F,δ,.ok x,R,e1,fun u H1 s1 r1=>?_⟩
  obtain⟨d,hd,rfl⟩:=M.o_inv hf
  unfold jcn at hd
  split at hd
  ·rename_i hz
   cases hd
   exact⟨by rw[r1.length];exact hz,fun p hp=>k _ _ (s1.trans (jal hp)) (jdj hp ((R.mono s1).fresh hp) r1)⟩
  ·cases hd
 ·exact⟨ρ,H₀,F,δ,.error x,R,e1,k⟩
noncomputable def fAnd(fa fb:DSt→M D):DSt→M D:=fun δ=>(fa δ).b fun x=>match x with
 | .bl true=>fb δ
 | .bl false=>M.p (.bl false)
 | _=>none
noncomputable def fOr(fa fb:DSt→M D):DSt→M D:=fun δ=>(fa δ).b fun x=>match x with
 | .bl true=>M.p (.bl true)
 | .bl false=>fb δ
 | _=>none
noncomputable def gNot:D→Option D
 | .bl b=>some (.bl !b)
 | _=>none
noncomputable def tAnd(ta tb:DSt→M Bool):DSt→M Bool:=fun δ=>(ta δ).b fun x=>if x=true then tb δ else M.p false
noncomputable def tOr(ta tb:DSt→M Bool):DSt→M Bool:=fun δ=>(ta δ).b fun x=>if x=true then M.p true else tb δ
noncomputable def tNot(ta:DSt→M Bool):DSt→M Bool:=fun δ=>(ta δ).b fun x=>M.p !x
noncomputable def fIf(tc:DSt→M Bool)(fa fb:DSt→M D):DSt→M D:=fun δ=>(tc δ).b fun x=>if x=true then fa δ else fb δ
variable {rest:List Expr}{ta tb' tc:DSt→M Bool}
noncomputable def truD:D→Option Bool
 | .non=>some false
 | .bl b=>some b
 | .int i=>some (i != 0)
 | .str x=>if x.length≤sizeLine then some ((x.length:Int) != 0) else none
 | .tup xs=>some !xs.isEmpty
 | .lst xs=>some !xs.isEmpty
 | _=>none
noncomputable def tTru(fa:DSt→M D):DSt→M Bool:=fun δ=>(fa δ).b fun x=>M.o (truD x)
theorem isE{ρ:Rho}{K:PySem.W.Frag}{H:Hp}{ds:List D}{xs:List V}(h:Reps ρ K H ds xs):xs.isEmpty=ds.isEmpty:=by
 cases ds with
 | nil=>rw[reps_nil.mp h];rfl
 | cons d ds=>obtain⟨v,r,rfl,_⟩:=reps_cons.mp h;rfl
theorem jx7(ha:DE X O E a fa)(he:autoParam (∀ whole,isTrue a X.env whole=(do let v ← whole;standAt a.pos;holding [v] (truthy v))) zau7._auto_1):DT X O E a (tTru fa):=by
 rintro pins s σ H Q I ⟨ρ,H₀,F,δ,rr,R,hf,k⟩
 refine jnd ha he pins s σ H Q I ?_
 rcases M.b_inv hf with ⟨x,e1,hf⟩|⟨x,e1,rfl⟩
 ·refine⟨ρ,H₀,F,δ,.ok x,R,e1,fun u H1 s1 r1=>?_⟩
  obtain⟨z,hz,rfl⟩:=M.o_inv hf
  refine⟨z,?_,k H1 s1⟩
  cases x with
  | non=>cases hz;rw[rep_non.mp r1];rfl
  | bl y=>cases hz;rw[rep_bl.mp r1];rfl
  | int i=>cases hz;rw[rep_int.mp r1];rfl
  | str y =>
   by_cases hl:y.length≤sizeLine
   ·have e:truD (.str y)=some ((y.length:Int) != 0):=if_pos hl
    rw[e] at hz;cases hz
    rw[rep_str.mp r1];exact⟨hl,rfl⟩
   ·have e:truD (.str y)=none:=if_neg hl
    rw[e] at hz;cases hz
  | tup ds =>
   cases hz
   obtain⟨q,xs,rfl,q2,q3⟩:=rep_tup.mp r1
   exact .inr (.inl ⟨xs,jcy jan q2,by rw[isE q3]⟩)
  | lst ds =>
   cases hz
   obtain⟨q,xs,rfl,q2,q3⟩:=rep_lst.mp r1
   exact .inl ⟨xs,jc1 jan q2,by rw[isE q3]⟩
  | ty n=>cases hz
  | obj n=>cases hz
 ·exact⟨ρ,H₀,F,δ,.error x,R,e1,k⟩
end
inductive Out where
 | nx (δ:DSt)|rt (d:D)|bk (δ:DSt)|ct (δ:DSt)
noncomputable def Ok(ρ:Rho)(K:PySem.W.Frag)(O' B:List Nat)(E:XK)(H₀:Hp)(F:Addr→Bool)(Hv:Hp)(Dn:Ends):Except XD Out→Prop
 | .ok (.nx δ')=>∀ σ' H',Same Hv (hid H' (fob F σ' O'))→RS ρ K H₀ H' F O' σ' δ'→Dn.nx σ' H'
 | .ok (.rt d)=>∀ v H',Same H₀ H'→Rep ρ K (hid H' F) d v→Dn.rt v H'
 | .ok (.bk δ')=>∀ σ' H',Same Hv (hid H' (fob F σ' B))→RS ρ K H₀ H' F B σ' δ'→Dn.bk σ' H'
 | .ok (.ct δ')=>∀ σ' H',Same Hv (hid H' (fob F σ' B))→RS ρ K H₀ H' F B σ' δ'→Dn.ct σ' H'
 | .error x=>okX K H₀ E x
inductive sD(K:PySem.W.Frag)(O O' B:List Nat)(E:XK)(g:DSt→M Out)(Dn:Ends)(σ:St)(H:Hp):Prop
 | mk (ρ:Rho) (H₀:Hp) (F:Addr→Bool) (δ:DSt) (r:Except XD Out) (R:RS ρ K H₀ H F O σ δ) (hf:g δ=some r) (k:Ok ρ K O' B E H₀ F (hid H (fob F σ O)) Dn r)
noncomputable def DS(X:Cx)(O O' B:List Nat)(E:XK)(st:Stmt)(g:DSt→M Out):Prop:=PS X st (sD X.K O O' B E g)
noncomputable def DSs(X:Cx)(O O' B:List Nat)(E:XK)(st:List Stmt)(g:DSt→M Out):Prop:=PSs X st (sD X.K O O' B E g)
theorem Ok.back{ρ:Rho}{K:PySem.W.Frag}{O' B:List Nat}{E:XK}{H₀:Hp}{F:Addr→Bool}{Hv Hv':Hp}{Dn:Ends}{r:Except XD Out}(e:Same Hv Hv')(h:Ok ρ K O' B E H₀ F Hv Dn r):Ok ρ K O' B E H₀ F Hv' Dn r:=by
 cases r with
 | error x=>exact h
 | ok o =>
  cases o with
  | nx δ'=>exact fun σ' H' f=>h σ' H' (e.trans f)
  | bk δ'=>exact fun σ' H' f=>h σ' H' (e.trans f)
  | ct δ'=>exact fun σ' H' f=>h σ' H' (e.trans f)
  | rt d=>exact h
noncomputable def gNx:DSt→M Out:=fun δ=>M.p (.nx δ)
noncomputable def gSeq(g1 g2:DSt→M Out):DSt→M Out:=fun δ=>(g1 δ).b fun o=>match o with
 | .nx δ'=>g2 δ'
 | o=>M.p o
noncomputable def gSet(i:Nat)(f:DSt→M D):DSt→M Out:=fun δ=>(f δ).b fun d=>M.p (.nx (δ.set i (some d)))
noncomputable def gRet(f:DSt→M D):DSt→M Out:=fun δ=>(f δ).b fun d=>M.p (.rt d)
noncomputable def jBr(f:DSt→M D):DSt→M Out:=fun δ=>(f δ).b fun _=>M.p (.nx δ)
noncomputable def gIf(t:DSt→M Bool)(g1 g2:DSt→M Out):DSt→M Out:=fun δ=>(t δ).b fun b=>if b=true then g1 δ else g2 δ
noncomputable def gBrk:DSt→M Out:=fun δ=>M.p (.bk δ)
noncomputable def gCnt:DSt→M Out:=fun δ=>M.p (.ct δ)
noncomputable def gApp(i:Nat)(f:DSt→M D):DSt→M Out:=fun δ=>(f δ).b fun d=>match (δ[i]?).join with
 | some (.lst ds)=>if ds.length<sizeLine then M.p (.nx (δ.set i (some (.lst (ds++[d]))))) else none
 | _=>none
noncomputable def forD(g:DSt→M Out)(tg:D→DSt→Option DSt):List D→DSt→M Out
 | [],δ=>M.p (.nx δ)
 | d::ds,δ=>match tg d δ with
  | none=>none
  | some δ1=>(g δ1).b fun o=>match o with
   | .nx δ'=>forD g tg ds δ'
   | .ct δ'=>forD g tg ds δ'
   | .bk δ'=>M.p (.nx δ')
   | .rt v=>M.p (.rt v)
noncomputable def gFor(fi:DSt→M (List D))(tg:D→DSt→Option DSt)(g:DSt→M Out):DSt→M Out:=fun δ=>(fi δ).b fun ds=>forD g tg ds δ
section
variable {ρ:Rho}{X:Cx}{O O' O'' B:List Nat}{E:XK}{a b c e:Expr}{es:List Expr}{fa fb fc:DSt→M D}{fl:DSt→M (List D)}{pos:Pos}{st:Stmt}{rest:List Stmt}{g g1 g2:DSt→M Out}{tc:DSt→M Bool}
theorem jll:DSs X O O B E [] gNx:=by
 rintro pins s σ H Dn I ⟨ρ,H₀,F,δ,r,R,hf,h⟩
 cases hf
 exact jq3 pins s σ H Dn I (h σ H (Same.refl _) R)
theorem jdp(h1:DS X O O' B E st g1)(h2:DSs X O' O'' B E rest g2):DSs X O O'' B E (st::rest) (gSeq g1 g2):=by
 rintro pins s σ H Dn I ⟨ρ,H₀,F,δ,r,R,hf,h⟩
 refine jnc h1 h2 pins s σ H Dn I ?_
 rcases M.b_inv hf with ⟨o,e1,hf⟩|⟨x,e1,rfl⟩
 ·refine⟨ρ,H₀,F,δ,.ok o,R,e1,?_⟩
  cases o with
  | nx δ'=>exact fun σ' H' f R'=>⟨ρ,H₀,F,δ',r,R',hf,h.back f⟩
  | rt d=>cases hf;exact h
  | bk δ'=>cases hf;exact h
  | ct δ'=>cases hf;exact h
 ·exact⟨ρ,H₀,F,δ,.error x,R,e1,h⟩
theorem je8(h1:DS X O O' B E st g):DSs X O O' B E [st] g:=fun pins s σ H Dn I h=>jq4 h1 pins s σ H Dn I h
theorem jvk{sts:List Stmt}(hO:∀ i∈O',i∈O)(h:DSs X O' O'' B E sts g):DSs X O O'' B E sts g:=by
 rintro pins s σ H Dn I ⟨ρ,H₀,F,δ,r,R,hf,k⟩
 refine h pins s σ H Dn I ⟨ρ,H₀,F,δ,r,R.thaw hO,hf,k.back (jcr fun b q=>?_)⟩
 rcases fob_t.mp q with q|⟨i,hi,q⟩
 ·exact fob_t.mpr (.inl q)
 ·exact fob_t.mpr (.inr ⟨i,hO i hi,q⟩)
theorem jpy{F:Addr→Bool}{σ:St}{O O':List Nat}(hO:∀ i∈O',i∈O):∀ b,fob F σ O' b=true→fob F σ O b=true:=fun b q=>by
 rcases fob_t.mp q with q|⟨i,hi,q⟩
 ·exact fob_t.mpr (.inl q)
 ·exact fob_t.mpr (.inr ⟨i,hO i hi,q⟩)
theorem jnf{F:Addr→Bool}{σ:St}{H H':Hp}{i:Nat}{v:V}(ho:i∉O)(s1:Same H H'):Same (hid H (fob F σ O)) (hid H' (fob F (σ.set i (some v)) O)):=by
 rw[jck ho];exact jaf s1
theorem jdo{i:Nat}{x:Str}{pos':Pos}(hN:X.N.Nodup)(he:DE X O E e fa)(ho:autoParam (O.contains i=false) zau2._auto_1)(hi:autoParam (X.N[i]? = some x) zau2._auto_1)(hx:autoParam (Loc X.env.scope x) zau8._auto_1)(hs:autoParam (swapsWith e (some (.Name x pos')) pos.line X.env=pure false) zau2._auto_1)
  (hf:autoParam (X.fn x=true∨X.env.scope.names.lookup x=some .local) zau0._auto_1):DS X O O B E (.Assign [.Name x pos'] e pos) (gSet i fa):=by
 rintro pins s σ H Dn I ⟨ρ,H₀,F,δ,r,R,hg,k⟩
 have ho':i∉O:=fun z=>by rw[List.contains_iff_mem.mpr z] at ho;cases ho
 refine jnb hN hi hx he hs hf pins s σ H Dn I ?_
 rcases M.b_inv hg with ⟨d,e1,hg⟩|⟨y,e1,rfl⟩
 ·cases hg
  exact⟨ρ,H₀,F,δ,.ok d,R,e1,fun v H' s' r'=>k _ H' (jnf ho' s') ((R.mono s').set ho' r')⟩
 ·exact⟨ρ,H₀,F,δ,.error y,R,e1,k⟩
theorem jx6{i:Nat}{x:Str}{pos' pos2:Pos}(hN:X.N.Nodup)(h:DA X O E es fl)(ho:autoParam (O.contains i=false) zau2._auto_1)(hi:autoParam (X.N[i]? = some x) zau2._auto_1)(hx:autoParam (Loc X.env.scope x) zau8._auto_1)(hs:autoParam (swapsWith (.List es pos2) (some (.Name x pos')) pos.line X.env=pure false) zau2._auto_1)
  (hf:autoParam (X.fn x=true∨X.env.scope.names.lookup x=some .local) zau0._auto_1):DS X O (i::O) B E (.Assign [.Name x pos'] (.List es pos2) pos) (gSet i (fL jcn fl)):=by
 rintro pins s σ H Dn I ⟨ρ,H₀,F,δ,r,R,hg,k⟩
 have ho':i∉O:=fun z=>by rw[List.contains_iff_mem.mpr z] at ho;cases ho
 have hl:i<δ.length:=by rw[← R.len,I.len];exact (List.getElem?_eq_some_iff.mp hi).1
 refine jnb hN hi hx (jku h) hs hf pins s σ H Dn I ?_
 rcases M.b_inv hg with ⟨d,e1,hg⟩|⟨y,e1,rfl⟩
 ·cases hg
  rcases M.b_inv e1 with ⟨ds,e1,hd⟩|⟨y,e1,z⟩
  ·refine⟨ρ,H₀,F,δ,.ok ds,R,e1,fun vs H1 s1 r1=>?_⟩
   obtain⟨d',hd',z⟩:=M.o_inv hd
   cases z
   unfold jcn at hd'
   split at hd'
   ·rename_i hz
    cases hd'
    refine⟨by rw[r1.length];exact hz,fun p hp=>?_⟩
    refine k _ _ ?_ (R.take ho' hl s1 hp r1)
    have pf:=(R.mono s1).fresh hp
    have lσ:i<σ.length:=by rw[R.len];exact hl
    intro b o q
    obtain⟨q1,q2⟩:=hid_some.mp q
    have q3:=s1 b o q2
    have hb:b≠p:=jas q3 hp
    refine hid_some.mpr ⟨?_,by rw[jaj hb];exact q3⟩
    cases z:fob F (σ.set i (some (.ref p))) (i::O) b with
    | false=>rfl
    | true =>
     rcases fob_t.mp z with z|⟨j,hj,z⟩
     ·rw[fob_t.mpr (.inl z)] at q1;cases q1
     ·rcases List.mem_cons.mp hj with rfl|hj
      ·rw[List.getElem?_set_self lσ] at z
       cases z
       exact absurd rfl hb
      ·rw[List.getElem?_set_ne (by rintro rfl;exact ho' hj)] at z
       rw[fob_t.mpr (.inr ⟨j,hj,z⟩)] at q1;cases q1
   ·cases hd'
  ·cases z
 ·rcases M.b_inv e1 with ⟨ds,e1,hd⟩|⟨y',e1,z⟩
  ·obtain⟨_,_,z⟩:=M.o_inv hd
   cases z
  ·cases z
   exact⟨ρ,H₀,F,δ,.error _,R,e1,k⟩
theorem jb3(he:DE X O E e fa):DS X O O' B E (.Return (some e) pos) (gRet fa):=by
 rintro pins s σ H Dn I ⟨ρ,H₀,F,δ,r,R,hg,k⟩
 refine jup he pins s σ H Dn I ?_
 rcases M.b_inv hg with ⟨d,e1,hg⟩|⟨y,e1,rfl⟩
 ·cases hg
  exact⟨ρ,H₀,F,δ,.ok d,R,e1,fun v H' s' r'=>k v H' (R.same.trans s') (r'.mono (jcr fun b q=>fob_t.mpr (.inl q)))⟩
 ·exact⟨ρ,H₀,F,δ,.error y,R,e1,k⟩
theorem jvi{s1 s2:List Stmt}(hc:DT X O E c tc)(h1:DSs X O O' B E s1 g1)(h2:DSs X O O' B E s2 g2):DS X O O' B E (.If c s1 s2 pos) (gIf tc g1 g2):=by
 rintro pins s σ H Dn I ⟨ρ,H₀,F,δ,r,R,hg,k⟩
 refine jz1 hc h1 h2 pins s σ H Dn I ?_
 rcases M.b_inv hg with ⟨z,e1,hg⟩|⟨y,e1,rfl⟩
 ·refine⟨ρ,H₀,F,δ,.ok z,R,e1,fun H1 s1=>?_⟩
  cases z with
  | true=>exact iteT ⟨ρ,H₀,F,δ,r,R.mono s1,hg,k.back (jaf s1)⟩
  | false=>exact iteF ⟨ρ,H₀,F,δ,r,R.mono s1,hg,k.back (jaf s1)⟩
 ·exact⟨ρ,H₀,F,δ,.error y,R,e1,k⟩
theorem jx3:DS X B O' B E (.Break pos) gBrk:=by
 rintro pins s σ H Dn I ⟨ρ,H₀,F,δ,r,R,hf,h⟩
 cases hf
 exact jtk pins s σ H Dn I (h σ H (Same.refl _) R)
theorem jx4:DS X B O' B E (.Continue pos) gCnt:=by
 rintro pins s σ H Dn I ⟨ρ,H₀,F,δ,r,R,hf,h⟩
 cases hf
 exact jmb pins s σ H Dn I (h σ H (Same.refl _) R)
inductive tG(K:PySem.W.Frag)(O:List Nat)(h:D→DSt→Option DSt)(v:V)(σ:St)(H:Hp)(Q:St→Hp→Prop):Prop
 | mk (ρ:Rho) (H₀:Hp) (F:Addr→Bool) (δ:DSt) (d:D) (δ':DSt) (R:RS ρ K H₀ H F O σ δ) (hr:Rep ρ K (hid H (fob F σ O)) d v) (hf:h d δ=some δ') (k:∀ σ',fob F σ' O=fob F σ O→RS ρ K H₀ H F O σ' δ'→Q σ' H)
noncomputable def DG(X:Cx)(O:List Nat)(tg:Expr)(h:D→DSt→Option DSt):Prop:=PG X tg (tG X.K O h)
noncomputable def gName(i:Nat):D→DSt→Option DSt:=fun d δ=>some (δ.set i (some d))
noncomputable def jcc(i j:Nat):D→DSt→Option DSt:=fun d δ=>match d with
 | .tup [x,y]=>some ((δ.set i (some x)).set j (some y))
 | _=>none
theorem jg0{i:Nat}{x:Str}(hN:X.N.Nodup)(ho:autoParam (O.contains i=false) zau2._auto_1)(hi:autoParam (X.N[i]? = some x) zau2._auto_1)(hx:autoParam (Loc X.env.scope x) zau8._auto_1)
  (hf:autoParam (X.fn x=true∨X.env.scope.names.lookup x=some .local) zau0._auto_1):DG X O (.Name x pos) (gName i):=by
 rintro pins s σ H v u Q I r ⟨ρ,H₀,F,δ,d,δ',R,rd,e,k⟩
 have ho':i∉O:=fun z=>by rw[List.contains_iff_mem.mpr z] at ho;cases ho
 cases e
 exact jma hN hi hx hf pins s σ H v u Q I r (k _ (jck ho') (R.set ho' rd))
theorem jg1{i j:Nat}{x y:Str}{px py:Pos}{kk:Nat}(hc:X.calm=true)(hN:X.N.Nodup)(ho:autoParam (O.contains i=false) zau2._auto_1)(ho2:autoParam (O.contains j=false) zau2._auto_1)(hi:autoParam (X.N[i]? = some x) zau2._auto_1)(hj:autoParam (X.N[j]? = some y) zau2._auto_1)
  (hx:autoParam (Loc X.env.scope x) zau8._auto_1) (hy:autoParam (Loc X.env.scope y) zau8._auto_1)
  (hf:autoParam (X.fn x=true∨X.env.scope.names.lookup x=some .local) zau0._auto_1) (hf2:autoParam (X.fn y=true∨X.env.scope.names.lookup y=some .local) zau0._auto_1) :
  DG X O (.Tuple [.Name x px,.Name y py] kk pos) (jcc i j):=by
 rintro pins s σ H v u Q I r ⟨ρ,H₀,F,δ,d,δ',R,rd,e,k⟩
 have ho':i∉O:=fun z=>by rw[List.contains_iff_mem.mpr z] at ho;cases ho
 have ho2':j∉O:=fun z=>by rw[List.contains_iff_mem.mpr z] at ho2;cases ho2
 unfold jcc at e
 split at e
 ·rename_i d1 d2
  cases e
  obtain⟨p,xs,rfl,q2,q3⟩:=rep_tup.mp rd
  obtain⟨v1,xs1,rfl,r1,q3⟩:=reps_cons.mp q3
  obtain⟨v2,xs2,rfl,r2,q3⟩:=reps_cons.mp q3
  cases reps_nil.mp q3
  refine jzy hc (jna (jma hN hi hx hf) (jna (jma hN hj hy hf2) jwr)) rfl rfl pins s σ H _ u Q I r ?_
  refine⟨p,_,rfl,jcy jan q2,rfl,v1,_,rfl,v2,_,rfl,rfl,?_⟩
  have e2:fob F ((σ.set i (some v1)).set j (some v2)) O=fob F σ O:=(jck ho2').trans (jck ho')
  refine k _ e2 ?_
  have R1:=R.set ho' r1
  exact R1.set ho2' (by rw[jck ho'];exact r2)
 ·cases e
noncomputable def ItD(ρ:Rho)(K:PySem.W.Frag)(J:It)(ds:List D)(Hv:Hp):Prop:=∀ (H':Hp) (G':Addr→Bool) (i:Nat),Same Hv (hid H' G')→(∀ p,H' p=none→G' p=false) →
 (i<ds.length→J.go i H'∧∀ x H2,J.yld i H' x H2→Same H' H2∧∃ d,ds[i]? = some d∧Rep ρ K (hid H2 G') d x)∧(i=ds.length→J.stop i H')
inductive tI(K:PySem.W.Frag)(O:List Nat)(E:XK)(f:DSt→M (List D))(σ:St)(H:Hp)(Q:It→Hp→Prop):Prop
 | mk (ρ:Rho) (H₀:Hp) (F:Addr→Bool) (δ:DSt) (r:Except XD (List D)) (R:RS ρ K H₀ H F O σ δ) (hf:f δ=some r) (k:match (generalizing:=false) r with
  | .ok ds=>∀ J H',Same H H'→ItD ρ K J ds (hid H' (fob F σ O))→Q J H'
  | .error x=>okX K H₀ E x)
noncomputable def DI(X:Cx)(O:List Nat)(E:XK)(tg iter:Expr)(f:DSt→M (List D)):Prop:=PI X tg iter (tI X.K O E f)
theorem jx5{tg iter:Expr}{body:List Stmt}{fi:DSt→M (List D)}{h:D→DSt→Option DSt}(hp:PassesOwn (model X.prog X.w) X.A X.env X.xe)(hc:X.calm=true)(hi:DI X O E tg iter fi)(hg:DG X O tg h)(hb:DSs X O O O E body g)
  (hs:autoParam (∀ x,foldedSetIterable iter X.env x=pure x) zau4._auto_1):DS X O O B E (.For tg iter body [] pos) (gFor fi h g):=by
 rintro pins s σ H Dn I ⟨ρ,H₀,F,δ,r,R,hgf,k⟩
 refine jq1 hp hc hi hg hb hs pins s σ H Dn I ?_
 rcases M.b_inv hgf with ⟨ds,e1,hgf⟩|⟨y,e1,rfl⟩
 ·refine⟨ρ,H₀,F,δ,.ok ds,R,e1,fun J H1 s1 it=>?_⟩
  refine⟨fun i m σ' H'=>m=ds.length-i∧i≤ds.length∧∃ δ',RS ρ X.K H₀ H' F O σ' δ'∧Same (hid H1 (fob F σ O)) (hid H' (fob F σ' O))∧forD g h (ds.drop i) δ'=some r,⟨ds.length,by simp,Nat.zero_le _,δ,R.mono s1,Same.refl _,hgf⟩,?_⟩
  rintro i m σ' H' ⟨rfl,hil,δ',R',f',hr⟩
  obtain⟨j1,j2⟩:=it H' (fob F σ' O) i f' (fun p hp=>R'.fresh hp)
  by_cases hlt:i<ds.length
  ·obtain⟨go,yld⟩:=j1 hlt
   refine .inr ⟨go,fun σ2 H2=>∃ δ2,RS ρ X.K H₀ H2 F O σ2 δ2∧Same (hid H1 (fob F σ O)) (hid H2 (fob F σ2 O))∧forD g h (ds.drop (i+1)) δ2=some r,fun σ2 H2 ⟨δ2,a1,a2,a3⟩=>⟨ds.length-(i+1),by omega,rfl,hlt,δ2,a1,a2,a3⟩,fun x H2 y=>?_⟩
   obtain⟨s2,d,hd,rd⟩:=yld x H2 y
   have hdr:ds.drop i=d::ds.drop (i+1):=by
    rw[List.drop_eq_getElem_cons hlt]
    have:ds[i]=d:=by rw[List.getElem?_eq_getElem hlt] at hd;exact Option.some.inj hd
    rw[this]
   rw[hdr] at hr
   unfold forD at hr
   cases e2:h d δ' with
   | none=>rw[e2] at hr;cases hr
   | some δ1 =>
    rw[e2] at hr
    dsimp only at hr
    have f2:Same (hid H1 (fob F σ O)) (hid H2 (fob F σ' O)):=f'.trans (jaf s2)
    refine⟨ρ,H₀,F,δ',d,δ1,R'.mono s2,rd,e2,fun σ3 ef R3=>?_⟩
    rcases M.b_inv hr with ⟨o,e3,hr⟩|⟨y,e3,rfl⟩
    ·refine⟨ρ,H₀,F,δ1,.ok o,R3,e3,?_⟩
     rw[ef]
     cases o with
     | nx δ4=>exact fun σ4 H4 f4 R4=>⟨δ4,R4,f2.trans f4,hr⟩
     | ct δ4=>exact fun σ4 H4 f4 R4=>⟨δ4,R4,f2.trans f4,hr⟩
     | bk δ4=>cases hr;exact fun σ4 H4 f4 R4=>k σ4 H4 ((jaf s1).trans (f2.trans f4)) R4
     | rt v=>cases hr;exact k
    ·exact⟨ρ,H₀,F,δ1,.error y,R3,e3,k⟩
  ·have ei:i=ds.length:=by omega
   subst ei
   rw[List.drop_length] at hr
   cases hr
   exact .inl ⟨j2 rfl,k σ' H' ((jaf s1).trans f') R'⟩
 ·exact⟨ρ,H₀,F,δ,.error y,R,e1,k⟩
end
end DL
namespace L2
open PySem PySem.Spec PyProof.Rows
noncomputable def iSeq(K:PySem.W.Frag)(tl:TE):TI:=fun σ H R=>tl σ H fun x H1=>(∃ a,x=.ref a∧(∃ xs,SqL K H1 a xs)∧R (Itl K a) H1)∨(∃ a,x=.ref a∧(∃ xs,SqT K H1 a xs)∧R (Itt K a) H1)
theorem jun{X:Cx}{tg l:Expr}{tl:TE}(hl:PE X l tl):PI X tg l (iSeq X.K tl):=by
 intro pins s σ H R I h
 refine thn (hl pins s σ H _ I h) fun v s1 hzz=>?_
 obtain⟨x,H1,I1,r1,q1⟩:=hzz
 have fp1:∀ b∈[s1.heap.objs.size],FpOk X pins H1 b:=fun b hb=>by
  have e:b=s1.heap.objs.size:=by simpa using hb
  subst e
  exact I1.fpOk (Nat.le_refl _) (I1.hok.fresh (Nat.le_refl _))
 rcases q1 with ⟨a,e,⟨xs,hq⟩,q⟩|⟨a,e,⟨xs,hq⟩,q⟩
 ·subst e
  cases r1
  obtain⟨its,rv,p,hz⟩:=I1.list hq
  exact wpAny_pyIter_list p.isList ⟨s1.heap.objs.size,[s1.heap.objs.size],_,_,H1,rfl,I1.kept (t':=s1.toks) fun b o e=>Heap.get?_push_of_some _ e,jrj a _,⟨_,Heap.get?_push_size _ rfl,rfl,rfl⟩,fp1,q⟩
 ·subst e
  cases r1
  obtain⟨its,rv,p,hz⟩:=I1.tuple hq
  exact wpAny_pyIter_tuple (show s1.heap.IsTuple a its.toArray from p) ⟨s1.heap.objs.size,[s1.heap.objs.size],_,_,H1,rfl,I1.kept (t':=s1.toks) fun b o e=>Heap.get?_push_of_some _ e,jok a _,⟨_,Heap.get?_push_size _ rfl,rfl,rfl⟩,fp1,q⟩
noncomputable def Itv(val:Nat→V)(n:Nat):It:=⟨fun i _=>i<n,fun i H x H'=>H'=H∧x=val i,fun i _=>i=n⟩
noncomputable def jkw(nm:String):Bool:=!["enumerate","zip","dict_itemiterator","dict_reverseitemiterator","odict_iterator","itertools.zip_longest","itertools.pairwise"].contains nm
theorem jlb{P:Program}{w:World}{K:PySem.W.Frag}{tg:Expr}(it:Addr)(val:Nat→V)(n:Nat)(Stn:Nat→Heap→Prop)(W:∀ A:Around,A.handled=none→Walks P w A it [it] [it] n (fun i v=>RelV (val i) v) Stn)
  (ob:∀ i h,Stn i h→∃ o nm vs,h.get? it=some o∧o.cls=.type nm∧o.data=.fields vs∧jkw nm=true)
  (sf:∀ (A:Around) (i:Nat) (s:Shared) (Q:Value→Shared→Prop) (E:Value→Shared→Prop),Stn i s.heap→Q (.ref it) s→wpAny (model P w) A (pyIter (.ref it)) Q E s):Turn P w K tg (Itv val n) [it] it Stn where
 mem:=by simp
 obj:=fun i h st b hb=>by
  have e:b=it:=by simpa using hb
  subst e
  obtain⟨o,nm,vs,q1,_,q3,_⟩:=ob i h st
  exact⟨o,q1,fun v z=>by rw[q3] at z;cases z⟩
 keep:=fun i h h' st k=>(W { handled:=none,frames:=some [] } rfl).frame i h h' st k
 item:=by
  intro X hP hw hK hc i pins s σ H E I hf st hg
  subst hP hw hK
  refine (W X.A (I.ok.hd hc)).item i s _ _ hg st fun v h' tk hv st' kk=>⟨v,rfl,?_⟩
  obtain⟨o,nm,vs,q1,q2,q3,q4⟩:=ob _ _ st'
  have I1:Inv X pins σ H { s with heap:=h',toks:=tk }:=I.spun0 hf kk
  exact jvq (s:={ s with heap:=h',toks:=tk }) q1 q2 q3 (by unfold jkw at q4;simpa using q4) ⟨val i,H,I1,hv,⟨rfl,rfl⟩,st',fun b hb=>(hf b hb).1⟩
 done:=by
  intro X hP hw hK hc i pins s σ H E I hf st hg
  subst hP hw hK
  have hg':i=n:=hg
  subst hg'
  exact (W X.A (I.ok.hd hc)).done s _ _ st fun h' tk kk=>⟨rfl,I.spun0 hf kk⟩
 self:=fun A i s Q E st h=>sf A i s Q E st h
section
variable {X:Cx}{tg:Expr}
theorem jkx{pins:List (Addr×Obj)}{σ:St}{H:Hp}{s:Shared}{R:It→Hp→Prop}{E:Value→Shared→Prop}{lo hi st:Int}{t u v:Tok}{tk:Nat}(I:Inv X pins σ H s)(hst:st=1)
  (q:R (Itv (fun i=>.int (lo+(i:Nat)*st)) (Builtin.Range.rangeSize lo hi st).toNat) H):wpAny (model X.prog X.w) X.A (pyIter (.ref s.heap.objs.size)) (PIE X pins σ tg R) E { s with heap:=s.heap.push { cls:=.type "range",data:=.fields #[.int lo t,.int hi u,.int st v] },toks:=tk }:=by
 have I1:Inv X pins σ H { s with heap:=s.heap.push { cls:=.type "range",data:=.fields #[.int lo t,.int hi u,.int st v] },toks:=tk }:=I.kept fun b o e=>Heap.get?_push_of_some _ e
 subst hst
 have hn:0≤Builtin.Range.rangeSize lo hi 1:=by rw[rangeSize_one];split<;>omega
 generalize hN:(Builtin.Range.rangeSize lo hi 1).toNat=N at q
 have hN':Builtin.Range.rangeSize lo hi 1=(N:Int):=by omega
 have fpk:∀ b∈[(s.heap.push { cls:=.type "range",data:=.fields #[.int lo t,.int hi u,.int 1 v] }).objs.size],FpOk X pins H b:=fun b hb=>by
  have e:b=(s.heap.push { cls:=.type "range",data:=.fields #[.int lo t,.int hi u,.int 1 v] }).objs.size:=by simpa using hb
  subst e
  exact I1.fpOk (Nat.le_refl _) (I1.hok.fresh (Nat.le_refl _))
 by_cases hsm:Builtin.Range.small lo hi 1=true
 ·refine wpAny_pyIter_range (IsRange.new ..) hsm ?_
  refine⟨_,[_],_,_,H,rfl,I1.kept (t':=tk) fun b o e=>Heap.get?_push_of_some _ e,jlb _ _ N _ (fun A hA=>Walks.range hA _ lo 1 N) (fun i h e=>⟨_,_,_,e,rfl,rfl,rfl⟩) (fun A i s Q E e h=>wpAny_pyIter_rangeiter e h),?_,fpk,q⟩
  show IsRangeIter _ _ (lo+((0:Nat):Int)*1) ((N:Int)-((0:Nat):Int)) 1
  rw[← hN']
  have e1:lo+((0:Nat):Int)*1=lo:=by simp
  have e2:Builtin.Range.rangeSize lo hi 1-((0:Nat):Int)=Builtin.Range.rangeSize lo hi 1:=by simp
  rw[e1,e2]
  exact Heap.get?_push_size _ rfl
 ·refine wpAny_pyIter_longrange (IsRange.new ..) (by simpa using hsm) ?_
  refine⟨_,[_],_,_,H,rfl,I1.kept (t':=tk) fun b o e=>Heap.get?_push_of_some _ e,jlb _ _ N _ (fun A hA=>Walks.longrange hA _ lo 1 N) (fun i h e=>⟨_,_,_,e,rfl,rfl,rfl⟩) (fun A i s Q E e h=>wpAny_pyIter_longiter e h),?_,fpk,q⟩
  show IsLongIter _ _ (lo+((0:Nat):Int)*1) ((N:Int)-((0:Nat):Int)) 1
  rw[← hN']
  have e1:lo+((0:Nat):Int)*1=lo:=by simp
  have e2:Builtin.Range.rangeSize lo hi 1-((0:Nat):Int)=Builtin.Range.rangeSize lo hi 1:=by simp
  rw[e1,e2]
  exact Heap.get?_push_size _ rfl
noncomputable def iRgA(ta:TA):TI:=fun σ H R=>ta σ H fun vs H1=>(∃ j:Int,vs=[.int j]∧R (Itv (fun i=>.int (0+(i:Nat)*1)) (Builtin.Range.rangeSize 0 j 1).toNat) H1) ∨
 (∃ i j:Int,vs=[.int i,.int j]∧R (Itv (fun n=>.int (i+(n:Nat)*1)) (Builtin.Range.rangeSize i j 1).toNat) H1)
theorem jti{a:Expr}{es:List Expr}{ta:TA}{p pos:Pos}(hg:Gl X "range")(hm:X.mg "range"=none)(ha:PA X (a::es) ta)(hs:autoParam (starEach (a::es) X.env=(false,eval a X.env)::starEach es X.env) zau2._auto_1)(hp:autoParam ((backTo pos (starEach es X.env)).any (·.1)=false) zau2._auto_1) :
  PI X tg (.Call (.Name "range" p) (a::es) [] pos) (iRgA ta):=by
 intro pins s σ H R I h
 refine Call_ (jhf I hg hm boot_range (PyProof.Rows.callWith_type1 (thn (ha pos pins s σ H _ I h) fun us s1 hzz=>?_) hs hp))
 obtain⟨vs,H1,I1,r1,q1⟩:=hzz
 rcases q1 with ⟨j,e,q⟩|⟨i,j,e,q⟩
 ·subst e
  obtain⟨u,rfl,t,rfl⟩:=r1.one
  exact call_range_1 (jkx I1 rfl q)
 ·subst e
  obtain⟨u,v,rfl,⟨t,rfl⟩,⟨t',rfl⟩⟩:=r1.two
  exact call_range_2 (jkx I1 rfl q)
end
end L2
namespace DL
open PySem PySem.Spec L2
noncomputable def seqD:D→Option (List D)
 | .lst ds=>some ds
 | .tup ds=>some ds
 | _=>none
noncomputable def jnv(f:DSt→M D):DSt→M (List D):=fun δ=>(f δ).b fun d=>M.o (seqD d)
noncomputable def jbl(lo:Int)(n:Nat):List D:=(List.range n).map fun i=>.int (lo+(i:Nat))
noncomputable def jcu:List D→Option (List D)
 | [.int j]=>some (jbl 0 j.toNat)
 | [.int i,.int j]=>some (jbl i (j-i).toNat)
 | _=>none
noncomputable def zipD:List D→List D→List D
 | x::xs,y::ys=>.tup [x,y]::zipD xs ys
 | _,_=>[]
noncomputable def jjv:List D→Option (List D)
 | [x,y]=>match seqD x,seqD y with
  | some xs,some ys=>some (zipD xs ys)
  | _,_=>none
 | _=>none
noncomputable def jdv:Int→List D→List D
 | _,[]=>[]
 | k,d::ds=>.tup [.int k,d]::jdv (k+1) ds
noncomputable def jfg:List D→Option (List D)
 | [.lst xs]=>some (jdv 0 xs)
 | _=>none
noncomputable def jha(k:List D→Option (List D))(f:DSt→M (List D)):DSt→M (List D):=fun δ=>(f δ).b fun ds=>M.o (k ds)
theorem jnl:∀ {xs ys:List D} {i:Nat} {d:D},(zipD xs ys)[i]? = some d→∃ x y,xs[i]? = some x∧ys[i]? = some y∧d=.tup [x,y]
 | [],_,_,_,h=>by simp[zipD] at h
 | _::_,[],_,_,h=>by simp[zipD] at h
 | x::xs,y::ys,0,d,h=>by simp[zipD] at h;exact⟨x,y,rfl,rfl,h.symm⟩
 | x::xs,y::ys,i+1,d,h=>by
  obtain⟨a,b,q1,q2,q3⟩:=jnl (xs:=xs) (ys:=ys) (i:=i) (d:=d) (by simpa[zipD] using h)
  exact⟨a,b,by simpa using q1,by simpa using q2,q3⟩
theorem jnm:∀ (xs ys:List D),(zipD xs ys).length=min xs.length ys.length
 | [],_=>by simp[zipD]
 | _::_,[]=>by simp[zipD]
 | x::xs,y::ys=>by simp[zipD,jnm xs ys]
theorem jg5:∀ {xs:List D} {k:Int} {i:Nat} {d:D},(jdv k xs)[i]? = some d→∃ x,xs[i]? = some x∧d=.tup [.int (k+i),x]
 | [],_,_,_,h=>by simp[jdv] at h
 | x::xs,k,0,d,h=>by simp[jdv] at h;exact⟨x,rfl,by rw[← h];simp⟩
 | x::xs,k,i+1,d,h=>by
  obtain⟨a,q1,q2⟩:=jg5 (xs:=xs) (k:=k+1) (i:=i) (d:=d) (by simpa[jdv] using h)
  refine⟨a,by simpa using q1,?_⟩
  have:k+1+(i:Int)=k+((i+1:Nat):Int):=by push_cast;omega
  rw[q2,this]
theorem jg6:∀ (xs:List D) (k:Int),(jdv k xs).length=xs.length
 | [],_=>rfl
 | _::xs,k=>by simp[jdv,jg6 xs]
section
variable {ρ:Rho}{X:Cx}{O:List Nat}{E:XK}{a b tg iter e elt:Expr}{es:List Expr}{fa:DSt→M D}{fl:DSt→M (List D)}{pos p:Pos}
theorem jir{k:Bool}{K:PySem.W.Frag}{H H':Hp}{l:Addr}{xs:List V}(e:Same H H')(h:SqV k K H l xs):SqV k K H' l xs:=by
 cases k with
 | true=>exact jcy (H:=H) e h
 | false=>exact jc1 (H:=H) e h
theorem juc{ρ:Rho}{K:PySem.W.Frag}{ds:List D}{Hv:Hp}{l:Addr}{xs:List V}(h:SqL K Hv l xs)(hr:Reps ρ K Hv ds xs):ItD ρ K (Itl K l) ds Hv:=by
 intro H' G' i f hG
 have h':SqL K H' l xs:=jc1 (f.trans jan) h
 refine⟨fun hi=>?_,fun hi=>⟨xs,h',by rw[hr.length,hi];exact Nat.le_refl _⟩⟩
 obtain⟨v,hv,rv⟩:=hr.get (List.getElem?_eq_getElem hi)
 refine⟨⟨xs,v,h',hv⟩,fun x H2 y=>?_⟩
 obtain⟨rfl,y⟩:=y
 refine⟨Same.refl _,_,List.getElem?_eq_getElem hi,?_⟩
 have:=y xs h'
 rw[hv] at this;cases this
 exact rv.mono f
theorem jud{ρ:Rho}{K:PySem.W.Frag}{ds:List D}{Hv:Hp}{l:Addr}{xs:List V}(h:SqT K Hv l xs)(hr:Reps ρ K Hv ds xs):ItD ρ K (Itt K l) ds Hv:=by
 intro H' G' i f hG
 have h':SqT K H' l xs:=jcy (f.trans jan) h
 refine⟨fun hi=>?_,fun hi=>⟨xs,h',by rw[hr.length,hi];exact Nat.le_refl _⟩⟩
 obtain⟨v,hv,rv⟩:=hr.get (List.getElem?_eq_getElem hi)
 refine⟨⟨xs,v,h',hv⟩,fun x H2 y=>?_⟩
 obtain⟨rfl,y⟩:=y
 refine⟨Same.refl _,_,List.getElem?_eq_getElem hi,?_⟩
 have:=y xs h'
 rw[hv] at this;cases this
 exact rv.mono f
theorem jue{ρ:Rho}{K:PySem.W.Frag}{Hv:Hp}{val:Nat→V}{ds:List D}{n:Nat}(hl:ds.length=n)(hv:∀ i d,ds[i]? = some d→∀ H,Rep ρ K H d (val i)):ItD ρ K (Itv val n) ds Hv:=by
 intro H' G' i f hG
 subst hl
 refine⟨fun hi=>⟨hi,fun x H2 y=>?_⟩,fun hi=>hi⟩
 obtain⟨rfl,rfl⟩:=y
 exact⟨Same.refl _,_,List.getElem?_eq_getElem hi,hv i _ (List.getElem?_eq_getElem hi) _⟩
theorem jyt{ρ:Rho}{K:PySem.W.Frag}{k1 k2:Bool}{ds es:List D}{Hv:Hp}{l1 l2:Addr}{xs ys:List V}(h1:SqV k1 K Hv l1 xs)(r1:Reps ρ K Hv ds xs)(h2:SqV k2 K Hv l2 ys)(r2:Reps ρ K Hv es ys):ItD ρ K (Itz k1 k2 K l1 l2) (zipD ds es) Hv:=by
 intro H' G' i f hG
 have h1':SqV k1 K H' l1 xs:=jir (f.trans jan) h1
 have h2':SqV k2 K H' l2 ys:=jir (f.trans jan) h2
 refine⟨fun hi=>?_,fun hi=>⟨xs,ys,h1',h2',?_⟩⟩
 ·obtain⟨d1,d2,q1,q2,q3⟩:=jnl (List.getElem?_eq_getElem hi)
  obtain⟨v,hv,rv⟩:=r1.get q1
  obtain⟨u,hu,ru⟩:=r2.get q2
  refine⟨⟨xs,ys,v,u,h1',h2',hv,hu⟩,fun x H2 y=>?_⟩
  obtain⟨T,x1,x2,hT,rfl,rfl,y1,y2⟩:=y
  have e1:=y1 xs h1'
  have e2:=y2 ys h2'
  rw[hv] at e1;cases e1
  rw[hu] at e2;cases e2
  refine⟨jal hT,_,List.getElem?_eq_getElem hi,?_⟩
  rw[q3]
  exact jbc hT (hG T hT) (Reps.cons (rv.mono f) (Reps.cons (ru.mono f) Reps.nil))
 ·rw[jnm] at hi
  rw[r1.length,r2.length]
  omega
theorem jys{ρ:Rho}{K:PySem.W.Frag}{ds:List D}{Hv:Hp}{l:Addr}{xs:List V}(h:SqL K Hv l xs)(hr:Reps ρ K Hv ds xs):ItD ρ K (Ite K l) (jdv 0 ds) Hv:=by
 intro H' G' i f hG
 have h':SqL K H' l xs:=jc1 (f.trans jan) h
 refine⟨fun hi=>?_,fun hi=>⟨xs,h',by rw[hr.length,hi,jg6];exact Nat.le_refl _⟩⟩
 obtain⟨d,q1,q2⟩:=jg5 (List.getElem?_eq_getElem hi)
 obtain⟨v,hv,rv⟩:=hr.get q1
 refine⟨⟨xs,v,h',hv⟩,fun x H2 y=>?_⟩
 obtain⟨T,x1,hT,rfl,rfl,y1⟩:=y
 have e1:=y1 xs h'
 rw[hv] at e1;cases e1
 refine⟨jal hT,_,List.getElem?_eq_getElem hi,?_⟩
 rw[q2,Int.zero_add]
 exact jbc hT (hG T hT) (Reps.cons (rep_int.mpr rfl) (Reps.cons (rv.mono f) Reps.nil))
theorem jt7(h:DE X O E iter fa):DI X O E tg iter (jnv fa):=by
 rintro pins s σ H R I ⟨ρ,H₀,F,δ,r,RS0,hf,k⟩
 refine jun h pins s σ H R I ?_
 rcases M.b_inv hf with ⟨d,e1,hf⟩|⟨y,e1,rfl⟩
 ·refine⟨ρ,H₀,F,δ,.ok d,RS0,e1,fun v H1 s1 r1=>?_⟩
  obtain⟨ds,hd,rfl⟩:=M.o_inv hf
  cases d with
  | lst es =>
   cases hd
   obtain⟨q,xs,rfl,q2,q3⟩:=rep_lst.mp r1
   exact .inl ⟨q,rfl,⟨xs,jc1 jan q2⟩,k _ H1 s1 (juc q2 q3)⟩
  | tup es =>
   cases hd
   obtain⟨q,xs,rfl,q2,q3⟩:=rep_tup.mp r1
   exact .inr ⟨q,rfl,⟨xs,jcy jan q2⟩,k _ H1 s1 (jud q2 q3)⟩
  | _=>cases hd
 ·exact⟨ρ,H₀,F,δ,.error y,RS0,e1,k⟩
theorem jky(lo hi:Int):(Builtin.Range.rangeSize lo hi 1).toNat=(hi-lo).toNat:=by
 rw[rangeSize_one];split<;>omega
theorem jmr(hg:Gl X "range")(hm:X.mg "range"=none)(ha:DA X O E (a::es) fl)(hs:autoParam (starEach (a::es) X.env=(false,eval a X.env)::starEach es X.env) zau2._auto_1)(hp:autoParam ((backTo pos (starEach es X.env)).any (·.1)=false) zau2._auto_1) :
  DI X O E tg (.Call (.Name "range" p) (a::es) [] pos) (jha jcu fl):=by
 rintro pins s σ H R I ⟨ρ,H₀,F,δ,r,RS0,hf,k⟩
 refine jti hg hm ha hs hp pins s σ H R I ?_
 rcases M.b_inv hf with ⟨d,e1,hf⟩|⟨y,e1,rfl⟩
 ·refine⟨ρ,H₀,F,δ,.ok d,RS0,e1,fun vs H1 s1 r1=>?_⟩
  obtain⟨ds,hd,rfl⟩:=M.o_inv hf
  unfold jcu at hd
  split at hd
  ·rename_i j
   cases hd
   obtain⟨v,r',rfl,q1,q2⟩:=reps_cons.mp r1
   cases reps_nil.mp q2
   cases rep_int.mp q1
   refine .inl ⟨j,rfl,k _ H1 s1 ?_⟩
   refine jue (by unfold jbl;rw[jky];simp) fun i d hd H=>?_
   unfold jbl at hd
   rw[List.getElem?_map] at hd
   cases q:(List.range j.toNat)[i]? with
   | none=>rw[q] at hd;cases hd
   | some m =>
    rw[q] at hd
    have:m=i:=by
     have:=(List.getElem?_eq_some_iff.mp q).2
     simpa using this.symm
    subst this
    cases hd
    exact rep_int.mpr (by rw[Int.mul_one])
  ·rename_i i0 j
   cases hd
   obtain⟨v,r',rfl,q1,q2⟩:=reps_cons.mp r1
   obtain⟨v2,r2,rfl,q3,q4⟩:=reps_cons.mp q2
   cases reps_nil.mp q4
   cases rep_int.mp q1
   cases rep_int.mp q3
   refine .inr ⟨i0,j,rfl,k _ H1 s1 ?_⟩
   refine jue (by unfold jbl;rw[jky];simp) fun i d hd H=>?_
   unfold jbl at hd
   rw[List.getElem?_map] at hd
   cases q:(List.range (j-i0).toNat)[i]? with
   | none=>rw[q] at hd;cases hd
   | some m =>
    rw[q] at hd
    have:m=i:=by
     have:=(List.getElem?_eq_some_iff.mp q).2
     simpa using this.symm
    subst this
    cases hd
    exact rep_int.mpr (by rw[Int.mul_one])
  ·cases hd
 ·exact⟨ρ,H₀,F,δ,.error y,RS0,e1,k⟩
theorem jAj{ρ:Rho}{K:PySem.W.Frag}{H:Hp}{d:D}{ds:List D}{v:V}(hd:seqD d=some ds)(h:Rep ρ K H d v):∃ k l xs,v=.ref l∧SqV k K H l xs∧Reps ρ K H ds xs:=by
 cases d with
 | lst es=>cases hd;obtain⟨q,xs,rfl,q2,q3⟩:=rep_lst.mp h;exact⟨false,q,xs,rfl,q2,q3⟩
 | tup es=>cases hd;obtain⟨q,xs,rfl,q2,q3⟩:=rep_tup.mp h;exact⟨true,q,xs,rfl,q2,q3⟩
 | _=>cases hd
theorem jvf{ts:List Expr}{kk:Nat}{tp:Pos}(hg:Gl X "enumerate")(hm:X.mg "enumerate"=none)(ha:DA X O E [a] fl)(hs:autoParam (starEach [a] X.env=[(false,eval a X.env)]) zau2._auto_1) :
  DI X O E (.Tuple ts kk tp) (.Call (.Name "enumerate" p) [a] [] pos) (jha jfg fl):=by
 rintro pins s σ H R I ⟨ρ,H₀,F,δ,r,RS0,hf,k⟩
 refine jqw hg hm ha hs pins s σ H R I ?_
 rcases M.b_inv hf with ⟨d,e1,hf⟩|⟨y,e1,rfl⟩
 ·refine⟨ρ,H₀,F,δ,.ok d,RS0,e1,fun vs H1 s1 r1=>?_⟩
  obtain⟨ds,hd,rfl⟩:=M.o_inv hf
  unfold jfg at hd
  split at hd
  ·rename_i xs
   cases hd
   obtain⟨v,r',rfl,q1,q2⟩:=reps_cons.mp r1
   cases reps_nil.mp q2
   obtain⟨l,us,rfl,z1,z2⟩:=rep_lst.mp q1
   exact⟨l,us,rfl,jc1 jan z1,k _ H1 s1 (jys z1 z2)⟩
  ·cases hd
 ·exact⟨ρ,H₀,F,δ,.error y,RS0,e1,k⟩
noncomputable def jbx(h:D→DSt→Option DSt)(tc:DSt→M Bool)(fe:DSt→M D):List D→DSt→Option (List D)
 | [],_=>some []
 | d::ds,δ=>match h d δ with
  | none=>none
  | some δ1=>match tc δ1 with
   | some (.ok true)=>(match fe δ1 with
    | some (.ok y)=>(jbx h tc fe ds δ1).map (y::·)
    | _=>none)
   | some (.ok false)=>jbx h tc fe ds δ1
   | _=>none
noncomputable def jbf(own:Nat)(caps:List (Str×Nat))(δ:DSt):DSt:=List.replicate own none++caps.map fun p=>(δ[p.2]?).join
noncomputable def jnt(own:Nat)(caps:List (Str×Nat))(fi:DSt→M (List D))(h:D→DSt→Option DSt)(tc:DSt→M Bool)(fe:DSt→M D):DSt→M D:=fun δ=>(fi δ).b fun ds=>M.o ((jbx h tc fe ds (jbf own caps δ)).bind jcn)
noncomputable def tYes:DSt→M Bool:=fun _=>M.p true
noncomputable def DC(X:Cx)(O:List Nat)(E:XK)(ifs:List Expr)(f:DSt→M Bool):Prop:=PC0 X ifs (tB X.K O E f)
theorem jo6:DC X O E [] tYes:=by
 rintro pins s σ H Q I ⟨ρ,H₀,F,δ,r,R,hf,h⟩
 cases hf
 exact jqu pins s σ H Q I (h H (Same.refl H))
theorem jt3{f:DSt→M Bool}(h:DT X O E a f):DC X O E [a] f:=jzo h
theorem jeu{own:Nat}{caps:List (Str×Nat)}{δ:DSt}{i:Nat}{d:D}(h:(jbf own caps δ)[i]? = some (some d)):∃ p,caps[i-own]? = some p∧own≤i∧δ[p.2]? = some (some d):=by
 unfold jbf at h
 by_cases hi:i<own
 ·rw[List.getElem?_append_left (by simpa using hi),List.getElem?_replicate,if_pos hi] at h
  cases h
 ·rw[List.getElem?_append_right (by simpa using hi),List.length_replicate,List.getElem?_map] at h
  cases e:caps[i-own]? with
  | none=>rw[e] at h;cases h
  | some p =>
   rw[e] at h
   exact⟨p,rfl,by omega,join_some (Option.some.inj h)⟩
theorem jfk{own:Nat}{caps:List (Str×Nat)}{σ:St}{i:Nat}{p:Str×Nat}{v:V}(h:caps[i-own]? = some p)(hi:own≤i)(hv:σ[p.2]? = some (some v)):(jbn own caps σ)[i]? = some (some v):=by
 unfold jbn
 rw[List.getElem?_append_right (by simpa using hi),List.length_replicate,List.getElem?_map,h]
 show some ((σ[p.2]?).join)=_
 rw[hv];rfl
noncomputable def jc2(O:List Nat)(caps:List (Str×Nat)):Bool:=caps.all fun p=>!O.contains p.2
inductive CInv(ρ:Rho)(K:PySem.W.Frag)(H1:Hp)(F:Addr→Bool)(Dd:Addr)(tot:List D)(cd:DSt→Option (List D))(σ:St)(H:Hp):Prop
 | mk (δ:DSt) (done:List D) (zs:List V) (rest:List D) (hR:RS ρ K H1 H F [] σ δ) (hD:H Dd=some (.lst zs)) (hz:Reps ρ K (hid H F) done zs) (hr:cd δ=some rest) (ht:done++rest=tot)
theorem jvc{ifs:List Expr}{scope:Scope}{own:List Str}{caps:List (Str×Nat)}{fi:DSt→M (List D)}{h:D→DSt→Option DSt}{tc:DSt→M Bool}{fe:DSt→M D}(hc:X.calm=true)(ck:CapsOk X scope caps)(hi:DI X O E tg iter fi)
  (hg:∀ C s0 H0 ex,DG (jax X scope (own++caps.map (·.1)) C s0 H0 ex) [] tg h) (ht:∀ C s0 H0 ex,DC (jax X scope (own++caps.map (·.1)) C s0 H0 ex) [] E0 ifs tc)
  (he:∀ C s0 H0 ex,DE (jax X scope (own++caps.map (·.1)) C s0 H0 ex) [] E0 elt fe) (hcf:autoParam (jc2 O caps=true) zau2._auto_1) (hs:autoParam (∀ x,foldedSetIterable iter X.env x=pure x) zau4._auto_1) :
  DE X O E (.ListComp elt [⟨tg,iter,ifs,0⟩] scope pos) (jnt own.length caps fi h tc fe):=by
 rintro pins s σ H Q I ⟨ρ,H₀,F,δ,r,R,hf,k⟩
 refine jjl (own:=own) (g:=tG X.K [] h) (tc:=tB X.K [] E0 tc) (te:=tD X.K [] E0 fe) hc ck hi hg ht he hs pins s σ H Q I ?_
 rcases M.b_inv hf with ⟨ds,e1,hf⟩|⟨y,e1,rfl⟩
 ·refine⟨ρ,H₀,F,δ,.ok ds,R,e1,fun J H1 s1 it Dd hD=>?_⟩
  obtain⟨dd,hd,rfl⟩:=M.o_inv hf
  cases hcd:jbx h tc fe ds (jbf own.length caps δ) with
  | none=>rw[hcd] at hd;cases hd
  | some tot =>
   rw[hcd] at hd
   have hd':jcn tot=some dd:=hd
   unfold jcn at hd'
   split at hd'
   ·rename_i hz
    cases hd'
    have R1:=R.mono s1
    have pf:=R1.fresh hD
    let F':Addr→Bool:=fun b=>fob F σ O b || b == Dd
    have F't:∀ b,F' b=true↔fob F σ O b=true∨b=Dd:=fun b=>by show (_ || _)=true↔_;rw[Bool.or_eq_true,beq_iff_eq]
    have vis:∀ {H2:Hp},Same H1 H2→Same (hid H1 (fob F σ O)) (hid H2 F'):=fun {H2} e b o q=>by
     obtain⟨q1,q2⟩:=hid_some.mp q
     refine hid_some.mpr ⟨?_,e b o q2⟩
     cases z:F' b with
     | false=>rfl
     | true =>
      rcases (F't b).mp z with z|z
      ·rw[q1] at z;cases z
      ·rw[z,hD] at q2;cases q2
    have R0:RS ρ X.K H1 (upd H1 Dd (.lst [])) F' [] (jbn own.length caps σ) (jbf own.length caps δ):=by
     refine⟨by simp[jbn,jbf],jal hD,fun b hb=>?_,fun i d hd _=>?_,fun i hi=>absurd hi (by simp),fun i hi=>absurd hi (by simp)⟩
     ·rcases (F't b).mp hb with z|z
      ·refine jd2 fun q=>?_
       rw[R1.fresh q] at z;cases z
      ·rw[z,jag];exact fun q=>nomatch q
     ·obtain⟨p,p1,p2,p3⟩:=jeu hd
      have hO:p.2∉O:=fun z=>by
       have:=List.all_eq_true.mp hcf p (List.mem_of_getElem? p1)
       rw[List.contains_iff_mem.mpr z] at this;cases this
      obtain⟨v,q1,q2⟩:=R1.val p.2 d p3 hO
      exact⟨v,jfk p1 p2 q1,by rw[ja3];exact q2.mono (vis (jal hD))⟩
    refine⟨fun i m σ' H'=>m=ds.length-i∧i≤ds.length∧CInv ρ X.K H1 F' Dd tot (jbx h tc fe (ds.drop i)) σ' H',
     ⟨ds.length,by simp,Nat.zero_le _,_,[],[],tot,R0,jag,Reps.nil,hcd,rfl⟩,?_⟩
    rintro i m σ' H' ⟨rfl,hil,δ',done,zs,rest,R',hDd,rz,hr,htot⟩
    have fv:Same (hid H1 (fob F σ O)) (hid H' (fob F' σ' [])):=by rw[ja3];exact vis R'.same
    obtain⟨j1,j2⟩:=it H' (fob F' σ' []) i fv fun p hp=>R'.fresh hp
    by_cases hlt:i<ds.length
    ·obtain⟨go,yld⟩:=j1 hlt
     refine .inr ⟨go,CInv ρ X.K H1 F' Dd tot (jbx h tc fe (ds.drop (i+1))),
      fun σ2 H2 q=>⟨ds.length-(i+1),by omega,rfl,hlt,q⟩,fun x H2 y=>?_⟩
     obtain⟨s2,d,hd,rd⟩:=yld x H2 y
     have hdr:ds.drop i=d::ds.drop (i+1):=by
      rw[List.drop_eq_getElem_cons hlt]
      have:ds[i]=d:=by rw[List.getElem?_eq_getElem hlt] at hd;exact Option.some.inj hd
      rw[this]
     rw[hdr] at hr
     unfold jbx at hr
     cases e2:h d δ' with
     | none=>rw[e2] at hr;cases hr
     | some δ1 =>
      rw[e2] at hr
      dsimp only at hr
      refine⟨ρ,H1,F',δ',d,δ1,R'.mono s2,rd,e2,fun σ3 ef R3=>?_⟩
      have keepD:∀ {H5:Hp},Same H2 H5→H5 Dd=some (.lst zs)∧Reps ρ X.K (hid H5 F') done zs:=fun {H5} e=>⟨e _ _ (s2 _ _ hDd),rz.mono (jaf (s2.trans e))⟩
      split at hr
      ·rename_i e3
       refine⟨ρ,H1,F',δ1,.ok true,R3,e3,fun H4 s4=>iteT ?_⟩
       split at hr
       ·rename_i yv e4
        refine⟨ρ,H1,F',δ1,.ok yv,R3.mono s4,e4,fun v H5 s5 r5=>?_⟩
        rw[ja3] at r5
        obtain⟨k1,k2⟩:=keepD (s4.trans s5)
        cases e5:jbx h tc fe (ds.drop (i+1)) δ1 with
        | none=>rw[e5] at hr;cases hr
        | some rest' =>
         rw[e5] at hr
         have hr':yv::rest'=rest:=Option.some.inj hr
         have hFD:F' Dd=true:=(F't Dd).mpr (.inr rfl)
         have hh:hid (upd H5 Dd (.lst (zs++[v]))) F'=hid H5 F':=jcz hFD
         refine⟨zs,k1,?_,δ1,done++[yv],zs++[v],rest',?_,jag,?_,e5,by rw[List.append_assoc,← htot,← hr'];rfl⟩
         ·have l1:=k2.length
          have l2:=congrArg List.length htot
          rw[List.length_append,← hr',List.length_cons] at l2
          omega
         ·have R5:=R3.mono (s4.trans s5)
          refine⟨R5.len,jeq R5.same hD,fun b hb=>jd2 (R5.fin b hb),fun j d' hj hO=>?_,fun j hj=>absurd hj (by simp),fun j hj=>absurd hj (by simp)⟩
          obtain⟨v',w1,w2⟩:=R5.val j d' hj hO
          refine⟨v',w1,?_⟩
          rw[ja3] at w2 ⊢
          rw[hh];exact w2
         ·rw[hh]
          exact k2.append (Reps.cons r5 Reps.nil)
       ·cases hr
      ·rename_i e3
       refine⟨ρ,H1,F',δ1,.ok false,R3,e3,fun H4 s4=>iteF ?_⟩
       obtain⟨k1,k2⟩:=keepD s4
       exact⟨δ1,done,zs,rest,R3.mono s4,k1,k2,hr,htot⟩
      ·cases hr
    ·have ei:i=ds.length:=by omega
     subst ei
     rw[List.drop_length] at hr
     cases hr
     rw[List.append_nil] at htot
     subst htot
     refine .inl ⟨j2 rfl,k _ H' (s1.trans R'.same) ?_⟩
     exact rep_lst.mpr ⟨Dd,zs,rfl,SqL.of (hid_some.mpr ⟨pf,hDd⟩),rz.mono (jcr fun b q=>(F't b).mpr (.inl q))⟩
   ·cases hd'
 ·exact⟨ρ,H₀,F,δ,.error y,R,e1,k⟩
end
mutual
noncomputable def okD:D→Bool
 | .ty _=>false
 | .obj _=>false
 | .tup ds=>okDs ds
 | .lst ds=>okDs ds
 | _=>true
noncomputable def okDs:List D→Bool
 | []=>true
 | d::ds=>okD d&&okDs ds
end
mutual
noncomputable def depD:D→Nat
 | .tup ds=>depDs ds+1
 | .lst ds=>depDs ds+1
 | _=>0
noncomputable def depDs:List D→Nat
 | []=>0
 | d::ds=>max (depD d) (depDs ds)
end
mutual
noncomputable def eqB:D→D→Bool
 | .non,.non=>true
 | .bl a,.bl b=>a == b
 | .bl a,.int b=>(if a then 1 else 0) == b
 | .int a,.bl b=>a == (if b then 1 else 0)
 | .int a,.int b=>a == b
 | .str a,.str b=>a == b
 | .tup a,.tup b=>eqBs a b
 | .lst a,.lst b=>eqBs a b
 | _,_=>false
noncomputable def eqBs:List D→List D→Bool
 | [],[]=>true
 | a::as,b::bs=>eqB a b&&eqBs as bs
 | _,_=>false
end
mutual
theorem ji9:∀ d:D,okD d=true→eqB d d=true
 | .non,_=>by unfold eqB;rfl
 | .bl _,_=>by unfold eqB;simp
 | .int _,_=>by unfold eqB;simp
 | .str _,_=>by unfold eqB;simp
 | .ty _,h=>by unfold okD at h;cases h
 | .obj _,h=>by unfold okD at h;cases h
 | .tup ds,h=>by unfold okD at h;unfold eqB;exact eqBs_refl ds h
 | .lst ds,h=>by unfold okD at h;unfold eqB;exact eqBs_refl ds h
theorem eqBs_refl:∀ ds:List D,okDs ds=true→eqBs ds ds=true
 | [],_=>by unfold eqBs;rfl
 | d::ds,h=>by
  unfold okDs at h
  rw[Bool.and_eq_true] at h
  unfold eqBs
  rw[ji9 d h.1,eqBs_refl ds h.2];rfl
end
theorem jfj:∀ {as bs:List D},eqBs as bs=true→as.length=bs.length
 | [],[],_=>rfl
 | [],_::_,h=>by unfold eqBs at h;cases h
 | _::_,[],h=>by unfold eqBs at h;cases h
 | a::as,b::bs,h=>by
  unfold eqBs at h
  rw[Bool.and_eq_true] at h
  simp[jfj h.2]
theorem jfi:∀ {as bs:List D},as.length=bs.length→∀ (k:Nat→Bool),(∀ j a b,as[j]? = some a→bs[j]? = some b→k j=eqB a b)→(List.range as.length).all k=eqBs as bs
 | [],[],_,k,_=>by unfold eqBs;rfl
 | [],_::_,h,_,_=>by simp at h
 | _::_,[],h,_,_=>by simp at h
 | a::as,b::bs,h,k,hk=>by
  unfold eqBs
  rw[List.length_cons,List.range_succ_eq_map,List.all_cons,List.all_map,hk 0 a b rfl rfl]
  congr 1
  exact jfi (by simpa using h) (k ∘ Nat.succ) fun j x y e1 e2=>hk (j+1) x y (by simpa using e1) (by simpa using e2)
theorem jc8:∀ {ds:List D} {i:Nat} {d:D},okDs ds=true→ds[i]? = some d→okD d=true
 | [],_,_,_,e=>by simp at e
 | d::ds,0,x,h,e=>by unfold okDs at h;rw[Bool.and_eq_true] at h;simp at e;subst e;exact h.1
 | d::ds,i+1,x,h,e=>by unfold okDs at h;rw[Bool.and_eq_true] at h;exact jc8 h.2 (by simpa using e)
theorem jef:∀ {ds:List D} {i:Nat} {d:D},ds[i]? = some d→depD d≤depDs ds
 | [],_,_,e=>by simp at e
 | d::ds,0,x,e=>by simp at e;subst e;unfold depDs;omega
 | d::ds,i+1,x,e=>by have:=jef (ds:=ds) (i:=i) (d:=x) (by simpa using e);unfold depDs;omega
section
variable {ρ:Rho}{X:Cx}{pins:List (Addr×Obj)}{σ:St}{H:Hp}{s:Shared}
theorem jy2{l:Addr}{xs ys:List V}(I:Inv X pins σ H s)(h1:SqT X.K H l xs)(h2:SqL X.K H l ys):False:=by
 obtain⟨i1,_,p1,_⟩:=I.tuple h1
 obtain⟨i2,_,p2,_⟩:=I.list h2
 exact SeqAt.ne_of_list_tuple p2.isList p1 rfl
mutual
theorem jq7(I:Inv X pins σ H s):∀ {d e:D} {v:V},okD d=true→okD e=true→Rep ρ X.K H d v→Rep ρ X.K H e v→d=e
 | .non,e,v,_,oe,h,k=>by
  cases rep_non.mp h
  cases e with
  | non=>rfl
  | bl _=>exact nomatch rep_bl.mp k
  | int _=>exact nomatch rep_int.mp k
  | str _=>exact nomatch rep_str.mp k
  | ty _=>unfold okD at oe;cases oe
  | obj _=>unfold okD at oe;cases oe
  | tup _=>obtain⟨_,_,z,_⟩:=rep_tup.mp k;cases z
  | lst _=>obtain⟨_,_,z,_⟩:=rep_lst.mp k;cases z
 | .bl b,e,v,_,oe,h,k=>by
  cases rep_bl.mp h
  cases e with
  | non=>exact nomatch rep_non.mp k
  | bl _=>cases rep_bl.mp k;rfl
  | int _=>exact nomatch rep_int.mp k
  | str _=>exact nomatch rep_str.mp k
  | ty _=>unfold okD at oe;cases oe
  | obj _=>unfold okD at oe;cases oe
  | tup _=>obtain⟨_,_,z,_⟩:=rep_tup.mp k;cases z
  | lst _=>obtain⟨_,_,z,_⟩:=rep_lst.mp k;cases z
 | .int b,e,v,_,oe,h,k=>by
  cases rep_int.mp h
  cases e with
  | non=>exact nomatch rep_non.mp k
  | bl _=>exact nomatch rep_bl.mp k
  | int _=>cases rep_int.mp k;rfl
  | str _=>exact nomatch rep_str.mp k
  | ty _=>unfold okD at oe;cases oe
  | obj _=>unfold okD at oe;cases oe
  | tup _=>obtain⟨_,_,z,_⟩:=rep_tup.mp k;cases z
  | lst _=>obtain⟨_,_,z,_⟩:=rep_lst.mp k;cases z
 | .str b,e,v,_,oe,h,k=>by
  cases rep_str.mp h
  cases e with
  | non=>exact nomatch rep_non.mp k
  | bl _=>exact nomatch rep_bl.mp k
  | int _=>exact nomatch rep_int.mp k
  | str _=>cases rep_str.mp k;rfl
  | ty _=>unfold okD at oe;cases oe
  | obj _=>unfold okD at oe;cases oe
  | tup _=>obtain⟨_,_,z,_⟩:=rep_tup.mp k;cases z
  | lst _=>obtain⟨_,_,z,_⟩:=rep_lst.mp k;cases z
 | .ty _,_,_,od,_,_,_=>by unfold okD at od;cases od
 | .obj _,_,_,od,_,_,_=>by unfold okD at od;cases od
 | .tup ds,e,v,od,oe,h,k=>by
  obtain⟨a,xs,rfl,q1,q2⟩:=rep_tup.mp h
  cases e with
  | non=>exact nomatch rep_non.mp k
  | bl _=>exact nomatch rep_bl.mp k
  | int _=>exact nomatch rep_int.mp k
  | str _=>exact nomatch rep_str.mp k
  | ty _=>unfold okD at oe;cases oe
  | obj _=>unfold okD at oe;cases oe
  | tup es =>
   obtain⟨b,ys,z,p1,p2⟩:=rep_tup.mp k
   cases z
   rw[I.tuple_inj q1 p1] at q2
   unfold okD at od oe
   rw[reps_inj I od oe q2 p2]
  | lst es =>
   obtain⟨b,ys,z,p1,p2⟩:=rep_lst.mp k
   cases z
   exact (jy2 I q1 p1).elim
 | .lst ds,e,v,od,oe,h,k=>by
  obtain⟨a,xs,rfl,q1,q2⟩:=rep_lst.mp h
  cases e with
  | non=>exact nomatch rep_non.mp k
  | bl _=>exact nomatch rep_bl.mp k
  | int _=>exact nomatch rep_int.mp k
  | str _=>exact nomatch rep_str.mp k
  | ty _=>unfold okD at oe;cases oe
  | obj _=>unfold okD at oe;cases oe
  | tup es =>
   obtain⟨b,ys,z,p1,p2⟩:=rep_tup.mp k
   cases z
   exact (jy2 I p1 q1).elim
  | lst es =>
   obtain⟨b,ys,z,p1,p2⟩:=rep_lst.mp k
   cases z
   rw[I.list_inj q1 p1] at q2
   unfold okD at od oe
   rw[reps_inj I od oe q2 p2]
theorem reps_inj(I:Inv X pins σ H s):∀ {ds es:List D} {vs:List V},okDs ds=true→okDs es=true→Reps ρ X.K H ds vs→Reps ρ X.K H es vs→ds=es
 | [],[],_,_,_,_,_=>rfl
 | [],_::_,_,_,_,h,k=>by cases reps_nil.mp h;obtain⟨_,_,z,_⟩:=reps_cons.mp k;cases z
 | _::_,[],_,_,_,h,k=>by cases reps_nil.mp k;obtain⟨_,_,z,_⟩:=reps_cons.mp h;cases z
 | d::ds,e::es,vs,od,oe,h,k=>by
  obtain⟨v,r,rfl,h1,h2⟩:=reps_cons.mp h
  obtain⟨v',r',z,k1,k2⟩:=reps_cons.mp k
  cases z
  unfold okDs at od oe
  rw[Bool.and_eq_true] at od oe
  rw[jq7 I od.1 oe.1 h1 k1,reps_inj I od.2 oe.2 h2 k2]
end
theorem jlm(I:Inv X pins σ H s):∀ (n:Nat) (A:Around) (d e:D) (v u:V) (a b:Value),depD d≤n→A.units+n+1<cLine→okD d=true→okD e=true→Rep ρ X.K H d v→Rep ρ X.K H e u→RelV v a→RelV u b →
  SeqAt.RcAt A s a b (eqB d e)∧SeqAt.EqAt A s a b (eqB d e):=by
 intro n
 induction n with
 | zero =>
  intro A d e v u a b hd hu od oe rd re ra rb
  have hu':A.units<cLine:=by omega
  have seqT:∀ {es:List D},Rep ρ X.K H (.tup es) u→∃ l its,b=.ref l∧s.heap.IsTuple l its:=fun h=>by
   obtain⟨l,xs,rfl,q1,_⟩:=rep_tup.mp h
   obtain⟨its,_,p,_⟩:=I.tuple q1
   exact⟨l,_,rb,p⟩
  have seqL:∀ {es:List D},Rep ρ X.K H (.lst es) u→∃ l its,b=.ref l∧s.heap.IsList l its:=fun h=>by
   obtain⟨l,xs,rfl,q1,_⟩:=rep_lst.mp h
   obtain⟨its,_,p,_⟩:=I.list q1
   exact⟨l,_,rb,p.isList⟩
  cases d with
  | ty _=>unfold okD at od;cases od
  | obj _=>unfold okD at od;cases od
  | tup _=>unfold depD at hd;omega
  | lst _=>unfold depD at hd;omega
  | non =>
   cases rep_non.mp rd;cases ra
   cases e with
   | ty _=>unfold okD at oe;cases oe
   | obj _=>unfold okD at oe;cases oe
   | non=>cases rep_non.mp re;cases rb;exact⟨SeqAt.RcAt.none_none,SeqAt.EqAt.same _⟩
   | bl y=>cases rep_bl.mp re;cases rb;exact⟨SeqAt.RcAt.none_bool _,SeqAt.EqAt.none_bool _⟩
   | int y=>cases rep_int.mp re;obtain⟨t,rfl⟩:=rb;exact⟨SeqAt.RcAt.none_int _ _,SeqAt.EqAt.none_int _ _⟩
   | str y=>cases rep_str.mp re;obtain⟨t,rfl⟩:=rb;exact⟨SeqAt.RcAt.none_str _ _,SeqAt.EqAt.none_str _ _⟩
   | tup es=>obtain⟨l,its,rfl,p⟩:=seqT re;exact⟨SeqAt.RcAt.none_tuple p hu',SeqAt.EqAt.none_tuple p hu'⟩
   | lst es=>obtain⟨l,its,rfl,p⟩:=seqL re;exact⟨SeqAt.RcAt.none_list p hu',SeqAt.EqAt.none_list p hu'⟩
  | bl x =>
   cases rep_bl.mp rd;cases ra
   cases e with
   | ty _=>unfold okD at oe;cases oe
   | obj _=>unfold okD at oe;cases oe
   | non=>cases rep_non.mp re;cases rb;exact⟨SeqAt.RcAt.bool_none _,SeqAt.EqAt.bool_none _⟩
   | bl y=>cases rep_bl.mp re;cases rb;exact⟨SeqAt.RcAt.bool_bool _ _,SeqAt.EqAt.bool_bool _ _⟩
   | int y=>cases rep_int.mp re;obtain⟨t,rfl⟩:=rb;exact⟨SeqAt.RcAt.bool_int _ _ _,SeqAt.EqAt.bool_int _ _ _⟩
   | str y=>cases rep_str.mp re;obtain⟨t,rfl⟩:=rb;exact⟨SeqAt.RcAt.bool_str _ _ _,SeqAt.EqAt.bool_str _ _ _⟩
   | tup es=>obtain⟨l,its,rfl,p⟩:=seqT re;exact⟨SeqAt.RcAt.bool_tuple _ p hu',SeqAt.EqAt.bool_tuple _ p hu'⟩
   | lst es=>obtain⟨l,its,rfl,p⟩:=seqL re;exact⟨SeqAt.RcAt.bool_list _ p hu',SeqAt.EqAt.bool_list _ p hu'⟩
  | int x =>
   cases rep_int.mp rd;obtain⟨ta,rfl⟩:=ra
   cases e with
   | ty _=>unfold okD at oe;cases oe
   | obj _=>unfold okD at oe;cases oe
   | non=>cases rep_non.mp re;cases rb;exact⟨SeqAt.RcAt.int_none _ _,SeqAt.EqAt.int_none _ _⟩
   | bl y=>cases rep_bl.mp re;cases rb;exact⟨SeqAt.RcAt.int_bool _ _ _,SeqAt.EqAt.int_bool _ _ _⟩
   | int y=>cases rep_int.mp re;obtain⟨t,rfl⟩:=rb;exact⟨SeqAt.RcAt.int_int _ _ _ _,SeqAt.EqAt.int_int _ _ _ _⟩
   | str y=>cases rep_str.mp re;obtain⟨t,rfl⟩:=rb;exact⟨SeqAt.RcAt.int_str _ _ _ _,SeqAt.EqAt.int_str _ _ _ _⟩
   | tup es=>obtain⟨l,its,rfl,p⟩:=seqT re;exact⟨SeqAt.RcAt.int_tuple _ _ p hu',SeqAt.EqAt.int_tuple _ _ p hu'⟩
   | lst es=>obtain⟨l,its,rfl,p⟩:=seqL re;exact⟨SeqAt.RcAt.int_list _ _ p hu',SeqAt.EqAt.int_list _ _ p hu'⟩
  | str x =>
   cases rep_str.mp rd;obtain⟨ta,rfl⟩:=ra
   cases e with
   | ty _=>unfold okD at oe;cases oe
   | obj _=>unfold okD at oe;cases oe
   | non=>cases rep_non.mp re;cases rb;exact⟨SeqAt.RcAt.str_none _ _,SeqAt.EqAt.str_none _ _⟩
   | bl y=>cases rep_bl.mp re;cases rb;exact⟨SeqAt.RcAt.str_bool _ _ _,SeqAt.EqAt.str_bool _ _ _⟩
   | int y=>cases rep_int.mp re;obtain⟨t,rfl⟩:=rb;exact⟨SeqAt.RcAt.str_int _ _ _ _,SeqAt.EqAt.str_int _ _ _ _⟩
   | str y=>cases rep_str.mp re;obtain⟨t,rfl⟩:=rb;exact⟨SeqAt.RcAt.str_str _ _ _ _,SeqAt.EqAt.str_str _ _ _ _⟩
   | tup es=>obtain⟨l,its,rfl,p⟩:=seqT re;exact⟨SeqAt.RcAt.str_tuple _ _ p hu',SeqAt.EqAt.str_tuple _ _ p hu'⟩
   | lst es=>obtain⟨l,its,rfl,p⟩:=seqL re;exact⟨SeqAt.RcAt.str_list _ _ p hu',SeqAt.EqAt.str_list _ _ p hu'⟩
 | succ n ih =>
  intro A d e v u a b hd hu od oe rd re ra rb
  have hu':A.units<cLine:=by omega
  have hin:A.in1.units+n+1<cLine:=by show A.units+1+n+1<cLine;omega
  by_cases small:depD d≤n
  ·exact ih A d e v u a b small (by omega) od oe rd re ra rb
  ·-- the two are refs: the same,or apart
   have both:∀ {l m:Addr},v=.ref l→u=.ref m→a=.ref l→b=.ref m→SeqAt.RcAt A s a b (eqB d e)→SeqAt.RcAt A s a b (eqB d e)∧SeqAt.EqAt A s a b (eqB d e):=fun {l m} ev eu ea eb r=>by
    refine⟨r,?_⟩
    subst ev eu ea eb
    by_cases z:l=m
    ·subst z
     have:d=e:=jq7 I od oe rd re
     subst this
     rw[ji9 d od]
     exact SeqAt.EqAt.same _
    ·exact SeqAt.EqAt.of_refs z r
   cases d with
   | ty _=>unfold okD at od;cases od
   | obj _=>unfold okD at od;cases od
   | non=>unfold depD at small;omega
   | bl _=>unfold depD at small;omega
   | int _=>unfold depD at small;omega
   | str _=>unfold depD at small;omega
   | tup ds =>
    obtain⟨l,xs,rfl,q1,q2⟩:=rep_tup.mp rd
    cases ra
    obtain⟨ix,rx,px,_⟩:=I.tuple q1
    have px':s.heap.IsTuple l ix.toArray:=px
    unfold okD at od
    unfold depD at hd
    cases e with
    | ty _=>unfold okD at oe;cases oe
    | obj _=>unfold okD at oe;cases oe
    | non=>cases rep_non.mp re;cases rb;exact⟨SeqAt.RcAt.tuple_none px' hu',SeqAt.EqAt.tuple_none px' hu'⟩
    | bl y=>cases rep_bl.mp re;cases rb;exact⟨SeqAt.RcAt.tuple_bool _ px' hu',SeqAt.EqAt.tuple_bool _ px' hu'⟩
    | int y=>cases rep_int.mp re;obtain⟨t,rfl⟩:=rb;exact⟨SeqAt.RcAt.tuple_int _ _ px' hu',SeqAt.EqAt.tuple_int _ _ px' hu'⟩
    | str y=>cases rep_str.mp re;obtain⟨t,rfl⟩:=rb;exact⟨SeqAt.RcAt.tuple_str _ _ px' hu',SeqAt.EqAt.tuple_str _ _ px' hu'⟩
    | lst es =>
     obtain⟨m,ys,rfl,p1,p2⟩:=rep_lst.mp re
     cases rb
     obtain⟨iy,ry,py,_⟩:=I.list p1
     unfold eqB
     exact⟨SeqAt.RcAt.tuple_list px' py.isList hu',SeqAt.EqAt.tuple_list px' py.isList hu'⟩
    | tup es =>
     obtain⟨m,ys,rfl,p1,p2⟩:=rep_tup.mp re
     cases rb
     obtain⟨iy,ry,py,_⟩:=I.tuple p1
     unfold okD at oe
     refine both rfl rfl rfl rfl ?_
     have lx:=rx.length
     have ly:=ry.length
     have mx:=q2.length
     have my:=p2.length
     have R:=SeqAt.RcAt.tuples (e:=fun j=>match ds[j]?,es[j]? with|some x,some y=>eqB x y|_,_=>false) px' (show s.heap.IsTuple m iy.toArray from py) hu' fun j h1 h2=>by
      have h1':j<ix.length:=by simpa using h1
      have h2':j<iy.length:=by simpa using h2
      have hj1:j<ds.length:=by omega
      have hj2:j<es.length:=by omega
      obtain⟨v1,e1,r1⟩:=q2.get (List.getElem?_eq_getElem hj1)
      obtain⟨v2,e2,r2⟩:=p2.get (List.getElem?_eq_getElem hj2)
      obtain⟨u1,f1,s1⟩:=rx.get e1
      obtain⟨u2,f2,s2⟩:=ry.get e2
      have g1:ix.toArray[j]=u1:=by rw[List.getElem?_eq_getElem h1'] at f1;simpa using Option.some.inj f1
      have g2:iy.toArray[j]=u2:=by rw[List.getElem?_eq_getElem h2'] at f2;simpa using Option.some.inj f2
      rw[g1,g2,List.getElem?_eq_getElem hj1,List.getElem?_eq_getElem hj2]
      have dd:=jef (List.getElem?_eq_getElem hj1)
      exact (ih A.in1 _ _ v1 v2 u1 u2 (by omega) hin (jc8 od (List.getElem?_eq_getElem hj1)) (jc8 oe (List.getElem?_eq_getElem hj2)) r1 r2 s1 s2).2
     unfold eqB
     have fin:((List.range (min ix.toArray.size iy.toArray.size)).all (fun j=>match ds[j]?,es[j]? with|some x,some y=>eqB x y|_,_=>false)&&ix.toArray.size == iy.toArray.size)=eqBs ds es:=by
      simp only[List.size_toArray]
      by_cases hl:ds.length=es.length
      ·have e1:min ix.length iy.length=ds.length:=by omega
       have e2:(ix.length == iy.length)=true:=by simp;omega
       rw[e1,e2,Bool.and_true]
       exact jfi hl _ fun j x y z1 z2=>by rw[z1,z2]
      ·have e2:(ix.length == iy.length)=false:=by simp;omega
       rw[e2,Bool.and_false]
       cases z:eqBs ds es with
       | false=>rfl
       | true=>exact absurd (jfj z) hl
     rw[fin] at R
     exact R
   | lst ds =>
    obtain⟨l,xs,rfl,q1,q2⟩:=rep_lst.mp rd
    cases ra
    obtain⟨ix,rx,px,_⟩:=I.list q1
    have px':s.heap.IsList l ix.toArray:=px.isList
    unfold okD at od
    unfold depD at hd
    cases e with
    | ty _=>unfold okD at oe;cases oe
    | obj _=>unfold okD at oe;cases oe
    | non=>cases rep_non.mp re;cases rb;exact⟨SeqAt.RcAt.list_none px' hu',SeqAt.EqAt.list_none px' hu'⟩
    | bl y=>cases rep_bl.mp re;cases rb;exact⟨SeqAt.RcAt.list_bool _ px' hu',SeqAt.EqAt.list_bool _ px' hu'⟩
    | int y=>cases rep_int.mp re;obtain⟨t,rfl⟩:=rb;exact⟨SeqAt.RcAt.list_int _ _ px' hu',SeqAt.EqAt.list_int _ _ px' hu'⟩
    | str y=>cases rep_str.mp re;obtain⟨t,rfl⟩:=rb;exact⟨SeqAt.RcAt.list_str _ _ px' hu',SeqAt.EqAt.list_str _ _ px' hu'⟩
    | tup es =>
     obtain⟨m,ys,rfl,p1,p2⟩:=rep_tup.mp re
     cases rb
     obtain⟨iy,ry,py,_⟩:=I.tuple p1
     unfold eqB
     exact⟨SeqAt.RcAt.list_tuple px' py hu',SeqAt.EqAt.list_tuple px' py hu'⟩
    | lst es =>
     obtain⟨m,ys,rfl,p1,p2⟩:=rep_lst.mp re
     cases rb
     obtain⟨iy,ry,py,_⟩:=I.list p1
     unfold okD at oe
     refine both rfl rfl rfl rfl ?_
     have lx:=rx.length
     have ly:=ry.length
     have mx:=q2.length
     have my:=p2.length
     unfold eqB
     by_cases hl:ds.length=es.length
     ·have hsz:ix.toArray.size=iy.toArray.size:=by simp only[List.size_toArray];omega
      have R:=SeqAt.RcAt.lists (e:=fun j=>match ds[j]?,es[j]? with|some x,some y=>eqB x y|_,_=>false) px' py.isList hsz hu' fun j h1 h2=>by
       have h1':j<ix.length:=by simpa using h1
       have h2':j<iy.length:=by simpa using h2
       have hj1:j<ds.length:=by omega
       have hj2:j<es.length:=by omega
       obtain⟨v1,e1,r1⟩:=q2.get (List.getElem?_eq_getElem hj1)
       obtain⟨v2,e2,r2⟩:=p2.get (List.getElem?_eq_getElem hj2)
       obtain⟨u1,f1,s1⟩:=rx.get e1
       obtain⟨u2,f2,s2⟩:=ry.get e2
       have g1:ix.toArray[j]=u1:=by rw[List.getElem?_eq_getElem h1'] at f1;simpa using Option.some.inj f1
       have g2:iy.toArray[j]=u2:=by rw[List.getElem?_eq_getElem h2'] at f2;simpa using Option.some.inj f2
       rw[g1,g2,List.getElem?_eq_getElem hj1,List.getElem?_eq_getElem hj2]
       have dd:=jef (List.getElem?_eq_getElem hj1)
       exact (ih A.in1 _ _ v1 v2 u1 u2 (by omega) hin (jc8 od (List.getElem?_eq_getElem hj1)) (jc8 oe (List.getElem?_eq_getElem hj2)) r1 r2 s1 s2).2
      have e1:ix.toArray.size=ds.length:=by simp only[List.size_toArray];omega
      rw[e1,jfi hl _ fun j x y z1 z2=>by rw[z1,z2]] at R
      exact R
     ·have R:=SeqAt.RcAt.lists_lengths (s:=s) (A:=A) px' py.isList (by simp only[List.size_toArray];simp;omega) hu'
      cases z:eqBs ds es with
      | false=>exact R
      | true=>exact absurd (jfj z) hl
end
noncomputable def BIGN:Nat:=Classical.choose (⟨2 ^ 100000,rfl⟩:∃ n:Nat,n=2 ^ 100000)
theorem jon:BIGN=2 ^ 100000:=Classical.choose_spec (⟨2 ^ 100000,rfl⟩:∃ n:Nat,n=2 ^ 100000)
noncomputable def BIG:Int:=(BIGN:Int)
noncomputable def DIVN:Nat:=Classical.choose (⟨2 ^ 9000,rfl⟩:∃ n:Nat,n=2 ^ 9000)
theorem joo:DIVN=2 ^ 9000:=Classical.choose_spec (⟨2 ^ 9000,rfl⟩:∃ n:Nat,n=2 ^ 9000)
noncomputable def DIVB:Int:=(DIVN:Int)
noncomputable def jez(i:Int):Bool:=decide (-BIG<i)&&decide (i<BIG)
noncomputable def gAdd:D→D→Option D
 | .int i,.int j=>some (.int (i+j))
 | .str x,.str y=>if x.length+y.length≤sizeLine then some (.str (x++y)) else none
 | _,_=>none
noncomputable def gSub:D→D→Option D
 | .int i,.int j=>some (.int (i-j))
 | _,_=>none
noncomputable def gMul:D→D→Option D
 | .int i,.int j=>if (jez i&&jez j)=true then some (.int (i*j)) else none
 | .str x,.int n=>if x.length≤4096∧-4096≤n∧n≤4096 then some (.str (Txt.mul x n)) else none
 | _,_=>none
noncomputable def gMod:D→D→Option D
 | .int i,.int j=>if 0<j then some (.int (i % j)) else none
 | _,_=>none
noncomputable def jcm:D→D→Option D
 | .int i,.int j=>if 0<j∧j<DIVB then some (.int (i / j)) else none
 | _,_=>none
noncomputable def gCmp(p:Int→Int→Bool)(q:Str→Str→Bool):D→D→Option D
 | .int i,.int j=>some (.bl (p i j))
 | .str x,.str y=>some (.bl (q x y))
 | _,_=>none
noncomputable def gLt:=gCmp (fun i j=>decide (i<j)) (fun x y=>decide (x.cps.toList<y.cps.toList))
noncomputable def gLe:=gCmp (fun i j=>decide (i≤j)) (fun x y=>!decide (y.cps.toList<x.cps.toList))
noncomputable def gGt:=gCmp (fun i j=>decide (j<i)) (fun x y=>decide (y.cps.toList<x.cps.toList))
noncomputable def gGe:=gCmp (fun i j=>decide (j≤i)) (fun x y=>!decide (x.cps.toList<y.cps.toList))
noncomputable def gEq:D→D→Option D:=fun x y=>if (okD x&&okD y&&decide (depD x≤20))=true then some (.bl (eqB x y)) else none
noncomputable def gNe:D→D→Option D:=fun x y=>if (okD x&&okD y&&decide (depD x≤20))=true then some (.bl !(eqB x y)) else none
noncomputable def jub:D→Bool
 | .non=>true
 | _=>false
noncomputable def jmv:D→D→Option D
 | x,.non=>some (.bl !(jub x))
 | _,_=>none
noncomputable def gNeg:D→Option D
 | .int i=>some (.int (-i))
 | _=>none
noncomputable def gIx:D→D→Option D
 | .lst ds,.int i=>atI ds i
 | .tup ds,.int i=>atI ds i
 | .str z,.int i=>if z.length≤sizeLine then (atI z.cps.toList i).map fun c=>.str ⟨#[c]⟩ else none
 | _,_=>none
theorem jmk{i:Int}(h:jez i=true):Builtin.Int.intBits i≤100001:=by
 unfold jez at h
 rw[Bool.and_eq_true,decide_eq_true_eq,decide_eq_true_eq] at h
 unfold Builtin.Int.intBits
 split
 ·omega
 ·have hn:i.natAbs≠0:=by
   intro z
   have:i=0:=by omega
   subst this
   simp at *
  have hlt:i.natAbs<BIGN:=by
   unfold BIG at h
   omega
  rw[jon] at hlt
  have:=(Nat.log2_lt (k:=100000) hn).mpr hlt
  omega
theorem ju6{i j:Int}(h1:jez i=true)(h2:jez j=true):IntMulOk i j:=by
 have b1:=jmk h1
 have b2:=jmk h2
 unfold IntMulOk
 have:Builtin.Int.intTooBig ((Builtin.Int.intBits i:Int)+(Builtin.Int.intBits j:Int))=false:=by
  unfold Builtin.Int.intTooBig bitsLine
  simp
  omega
 intro h
 rw[Bool.and_eq_true] at h
 have h2:=h.2
 first
  | (rw[this] at h2;cases h2)
  | (push_cast at h2;rw[this] at h2;cases h2)
section
variable {X:Cx}
theorem op_addD:OpR X (binaryOp .Add) (fun x y H Q=>rI0 (fun i j=>.int (i+j)) x y H Q∨∃ i j,x=.str i∧y=.str j∧i.length+j.length≤sizeLine∧Q (.str (i++j)) H):=op_add.or jn5
theorem jqs:OpD X.K gSub (rI0 fun i j=>.int (i-j)):=by
 intro x y d hd ρ H G u v Q hG ru rv k
 unfold gSub at hd
 split at hd
 ·cases hd;exact⟨_,_,rep_int.mp ru,rep_int.mp rv,k _ H (Same.refl H) (rep_int.mpr rfl)⟩
 ·cases hd
theorem op_mulD:OpR X (binaryOp .Mult) (fun x y H Q=>rI (fun i j=>(jez i&&jez j)=true) (fun i j=>.int (i*j)) x y H Q∨∃ z n,x=.str z∧y=.int n∧(z.length≤4096∧-4096≤n∧n≤4096)∧Q (.str (Txt.mul z n)) H):=by
 refine OpR.or (opI fun i j t u s E Q hc q=>PyProof.Rows.mul_int q (by rw[Bool.and_eq_true] at hc;exact ju6 hc.1 hc.2)) ?_
 intro pins s σ H x y v u Q I rx ry h
 obtain⟨z,n,rfl,rfl,⟨h1,h2,h3⟩,q⟩:=h
 obtain⟨t,rfl⟩:=rx
 obtain⟨t',rfl⟩:=ry
 refine SB.mul (PyProof.Rows.mulOk_of 4096 4096 h1 h3 (by omega) (by decide) (by decide)) fun t' k=>⟨.str (Txt.mul z n),H,I.tok _,⟨_,rfl⟩,q⟩
theorem jwk:OpD X.K gMul (fun x y H Q=>rI (fun i j=>(jez i&&jez j)=true) (fun i j=>.int (i*j)) x y H Q∨∃ z n,x=.str z∧y=.int n∧(z.length≤4096∧-4096≤n∧n≤4096)∧Q (.str (Txt.mul z n)) H):=by
 intro x y d hd ρ H G u v Q hG ru rv k
 unfold gMul at hd
 split at hd
 ·split at hd
  ·rename_i hz
   cases hd;exact .inl ⟨_,_,rep_int.mp ru,rep_int.mp rv,hz,k _ H (Same.refl H) (rep_int.mpr rfl)⟩
  ·cases hd
 ·split at hd
  ·rename_i hz
   cases hd;exact .inr ⟨_,_,rep_str.mp ru,rep_int.mp rv,hz,k _ H (Same.refl H) (rep_str.mpr rfl)⟩
  ·cases hd
 ·cases hd
theorem jbq:OpD X.K gMod (rI (fun _ j=>0<j) fun i j=>.int (i % j)):=by
 intro x y d hd ρ H G u v Q hG ru rv k
 unfold gMod at hd
 split at hd
 ·split at hd
  ·rename_i hz
   cases hd;exact⟨_,_,rep_int.mp ru,rep_int.mp rv,hz,k _ H (Same.refl H) (rep_int.mpr rfl)⟩
  ·cases hd
 ·cases hd
theorem jc9:OpR X (binaryOp .FloorDiv) (rI (fun _ j=>0<j∧j<DIVB) fun i j=>.int (i / j)):=opI fun i j t u s E Q hc q=>by
 have e:i.fdiv j=i / j:=Int.fdiv_eq_ediv_of_nonneg i (Int.le_of_lt hc.1)
 refine PyProof.Rows.floordiv_int (by omega) (by rw[e];exact q) (.inl (PyProof.noPylong_of_log2 ?_))
 have hn:j.natAbs≠0:=by omega
 have hlt:j.natAbs<DIVN:=by
  have:=hc.2
  unfold DIVB at this
  omega
 rw[joo] at hlt
 exact (Nat.log2_lt (k:=9000) hn).mpr hlt
theorem jda:OpD X.K jcm (rI (fun _ j=>0<j∧j<DIVB) fun i j=>.int (i / j)):=by
 intro x y d hd ρ H G u v Q hG ru rv k
 unfold jcm at hd
 split at hd
 ·split at hd
  ·rename_i hz
   cases hd;exact⟨_,_,rep_int.mp ru,rep_int.mp rv,hz,k _ H (Same.refl H) (rep_int.mpr rfl)⟩
  ·cases hd
 ·cases hd
theorem jhr{p:Int→Int→Bool}{q:Str→Str→Bool}:OpD X.K (gCmp p q) (fun x y H Q=>rI0 (fun i j=>.bl (p i j)) x y H Q∨∃ i j,x=.str i∧y=.str j∧Q (.bl (q i j)) H):=by
 intro x y d hd ρ H G u v Q hG ru rv k
 unfold gCmp at hd
 split at hd
 ·cases hd;exact .inl ⟨_,_,rep_int.mp ru,rep_int.mp rv,k _ H (Same.refl H) (rep_bl.mpr rfl)⟩
 ·cases hd;exact .inr ⟨_,_,rep_str.mp ru,rep_str.mp rv,k _ H (Same.refl H) (rep_bl.mpr rfl)⟩
 ·cases hd
theorem jqr{op:CmpOp}{q:Str→Str→Bool}(h:∀ {prog:Program} {w:World} {A:Around} {E:Value→Shared→Prop} {s:Shared} {Q:Value→Shared→Prop} (x y:Str) (t u:Tok),Q (.bool (q x y)) s→wpAny (model prog w) A (compareOp op (.str x t) (.str y u)) Q E s) :
  OpR X (compareOp op) (fun x y H Q=>∃ i j,x=.str i∧y=.str j∧Q (.bl (q i j)) H):=by
 intro pins s σ H x y v u Q I rx ry k
 obtain⟨i,j,rfl,rfl,k⟩:=k
 obtain⟨t,rfl⟩:=rx
 obtain⟨t',rfl⟩:=ry
 exact h i j t t' ⟨.bl (q i j),H,I,rfl,k⟩
theorem jqn:OpR X (compareOp .Lt) (fun x y H Q=>rI0 (fun i j=>.bl (decide (i<j))) x y H Q∨∃ i j,x=.str i∧y=.str j∧Q (.bl (decide (i.cps.toList<j.cps.toList))) H):=op_lt.or jqo
theorem jzm:OpR X (compareOp .LtE) (fun x y H Q=>rI0 (fun i j=>.bl (decide (i≤j))) x y H Q∨∃ i j,x=.str i∧y=.str j∧Q (.bl (!decide (j.cps.toList<i.cps.toList))) H):=op_le.or (jqr fun x y t u h=>P.le_str h)
theorem jzl:OpR X (compareOp .Gt) (fun x y H Q=>rI0 (fun i j=>.bl (decide (j<i))) x y H Q∨∃ i j,x=.str i∧y=.str j∧Q (.bl (decide (j.cps.toList<i.cps.toList))) H):=op_gt.or (jqr fun x y t u h=>P.gt_str h)
noncomputable def rEqD(K:PySem.W.Frag)(neg:Bool):R2:=fun u v H Q=>∃ ρ x y,okD x=true∧okD y=true∧depD x≤20∧Rep ρ K H x u∧Rep ρ K H y v∧Q (.bl (if neg then !eqB x y else eqB x y)) H
theorem jkq(hu:X.A.units+30<cLine):OpR X (compareOp .Eq) (rEqD X.K false):=by
 intro pins s σ H x y v u Q I rx ry h
 obtain⟨ρ,d,e,o1,o2,hd,r1,r2,q⟩:=h
 exact (jlm I 20 X.A d e x y v u hd (by omega) o1 o2 r1 r2 rx ry).1 _ _ _ _ ⟨.bl (eqB d e),H,I,rfl,q⟩
theorem jks:OpD X.K gEq (rEqD X.K false):=by
 intro x y d hd ρ H G u v Q hG ru rv k
 unfold gEq at hd
 split at hd
 ·rename_i h
  rw[Bool.and_eq_true,Bool.and_eq_true,decide_eq_true_eq] at h
  cases hd
  exact⟨ρ,x,y,h.1.1,h.1.2,h.2,ru.mono jan,rv.mono jan,k _ H (Same.refl H) (rep_bl.mpr rfl)⟩
 ·cases hd
theorem jm5:OpD X.K gNe (rEqD X.K true):=by
 intro x y d hd ρ H G u v Q hG ru rv k
 unfold gNe at hd
 split at hd
 ·rename_i h
  rw[Bool.and_eq_true,Bool.and_eq_true,decide_eq_true_eq] at h
  cases hd
  exact⟨ρ,x,y,h.1.1,h.1.2,h.2,ru.mono jan,rv.mono jan,k _ H (Same.refl H) (rep_bl.mpr rfl)⟩
 ·cases hd
theorem jqj{ρ:Rho}{pins:List (Addr×Obj)}{σ:St}{H:Hp}{s:Shared}(I:Inv X pins σ H s)(A:Around){ds es:List D}{v u:V}{a b:Value}(hd:depD (.tup ds)≤20)(hu:A.units+24<cLine)(od:okD (.tup ds)=true)(oe:okD (.tup es)=true)
  (rd:Rep ρ X.K H (.tup ds) v) (re:Rep ρ X.K H (.tup es) u) (ra:RelV v a) (rb:RelV u b):SeqAt.RcNeAt A s a b (!eqB (.tup ds) (.tup es)):=by
 have hu':A.units<cLine:=by omega
 obtain⟨l,xs,rfl,q1,q2⟩:=rep_tup.mp rd
 obtain⟨m,ys,rfl,p1,p2⟩:=rep_tup.mp re
 cases ra
 cases rb
 obtain⟨ix,rx,px,_⟩:=I.tuple q1
 obtain⟨iy,ry,py,_⟩:=I.tuple p1
 unfold okD at od oe
 unfold depD at hd
 have lx:=rx.length
 have ly:=ry.length
 have mx:=q2.length
 have my:=p2.length
 have R:=SeqAt.RcNeAt.tuples (A:=A) (e:=fun j=>match ds[j]?,es[j]? with|some x,some y=>eqB x y|_,_=>false) (show s.heap.IsTuple l ix.toArray from px) (show s.heap.IsTuple m iy.toArray from py) hu' fun j h1 h2=>by
  have h1':j<ix.length:=by simpa using h1
  have h2':j<iy.length:=by simpa using h2
  have hj1:j<ds.length:=by omega
  have hj2:j<es.length:=by omega
  obtain⟨v1,e1,r1⟩:=q2.get (List.getElem?_eq_getElem hj1)
  obtain⟨v2,e2,r2⟩:=p2.get (List.getElem?_eq_getElem hj2)
  obtain⟨u1,f1,s1⟩:=rx.get e1
  obtain⟨u2,f2,s2⟩:=ry.get e2
  have g1:ix.toArray[j]=u1:=by rw[List.getElem?_eq_getElem h1'] at f1;simpa using Option.some.inj f1
  have g2:iy.toArray[j]=u2:=by rw[List.getElem?_eq_getElem h2'] at f2;simpa using Option.some.inj f2
  rw[g1,g2,List.getElem?_eq_getElem hj1,List.getElem?_eq_getElem hj2]
  have dd:=jef (List.getElem?_eq_getElem hj1)
  exact (jlm I 20 A.in1 _ _ v1 v2 u1 u2 (by omega) (by show A.units+1+20+1<cLine;omega) (jc8 od (List.getElem?_eq_getElem hj1)) (jc8 oe (List.getElem?_eq_getElem hj2)) r1 r2 s1 s2).2
 unfold eqB
 have fin:((List.range (min ix.toArray.size iy.toArray.size)).all (fun j=>match ds[j]?,es[j]? with|some x,some y=>eqB x y|_,_=>false)&&ix.toArray.size == iy.toArray.size)=eqBs ds es:=by
  simp only[List.size_toArray]
  by_cases hl:ds.length=es.length
  ·have e1:min ix.length iy.length=ds.length:=by omega
   have e2:(ix.length == iy.length)=true:=by simp;omega
   rw[e1,e2,Bool.and_true]
   exact jfi hl _ fun j x y z1 z2=>by rw[z1,z2]
  ·have e2:(ix.length == iy.length)=false:=by simp;omega
   rw[e2,Bool.and_false]
   cases z:eqBs ds es with
   | false=>rfl
   | true=>exact absurd (jfj z) hl
 rw[fin] at R
 exact R
theorem js4{ρ:Rho}{pins:List (Addr×Obj)}{σ:St}{H:Hp}{s:Shared}(I:Inv X pins σ H s)(A:Around){ds es:List D}{v u:V}{a b:Value}(hd:depD (.lst ds)≤20)(hu:A.units+24<cLine)(od:okD (.lst ds)=true)(oe:okD (.lst es)=true)
  (rd:Rep ρ X.K H (.lst ds) v) (re:Rep ρ X.K H (.lst es) u) (ra:RelV v a) (rb:RelV u b):SeqAt.RcNeAt A s a b (!eqB (.lst ds) (.lst es)):=by
 have hu':A.units<cLine:=by omega
 obtain⟨l,xs,rfl,q1,q2⟩:=rep_lst.mp rd
 obtain⟨m,ys,rfl,p1,p2⟩:=rep_lst.mp re
 cases ra
 cases rb
 obtain⟨ix,rx,px,_⟩:=I.list q1
 obtain⟨iy,ry,py,_⟩:=I.list p1
 unfold okD at od oe
 unfold depD at hd
 have lx:=rx.length
 have ly:=ry.length
 have mx:=q2.length
 have my:=p2.length
 unfold eqB
 by_cases hl:ds.length=es.length
 ·have hsz:ix.toArray.size=iy.toArray.size:=by simp only[List.size_toArray];omega
  have R:=SeqAt.RcNeAt.lists (A:=A) (e:=fun j=>match ds[j]?,es[j]? with|some x,some y=>eqB x y|_,_=>false) px.isList py.isList hsz hu' fun j h1 h2=>by
   have h1':j<ix.length:=by simpa using h1
   have h2':j<iy.length:=by simpa using h2
   have hj1:j<ds.length:=by omega
   have hj2:j<es.length:=by omega
   obtain⟨v1,e1,r1⟩:=q2.get (List.getElem?_eq_getElem hj1)
   obtain⟨v2,e2,r2⟩:=p2.get (List.getElem?_eq_getElem hj2)
   obtain⟨u1,f1,s1⟩:=rx.get e1
   obtain⟨u2,f2,s2⟩:=ry.get e2
   have g1:ix.toArray[j]=u1:=by rw[List.getElem?_eq_getElem h1'] at f1;simpa using Option.some.inj f1
   have g2:iy.toArray[j]=u2:=by rw[List.getElem?_eq_getElem h2'] at f2;simpa using Option.some.inj f2
   rw[g1,g2,List.getElem?_eq_getElem hj1,List.getElem?_eq_getElem hj2]
   have dd:=jef (List.getElem?_eq_getElem hj1)
   exact (jlm I 20 A.in1 _ _ v1 v2 u1 u2 (by omega) (by show A.units+1+20+1<cLine;omega) (jc8 od (List.getElem?_eq_getElem hj1)) (jc8 oe (List.getElem?_eq_getElem hj2)) r1 r2 s1 s2).2
  have e1:ix.toArray.size=ds.length:=by simp only[List.size_toArray];omega
  rw[e1,jfi hl _ fun j x y z1 z2=>by rw[z1,z2]] at R
  exact R
 ·have R:=SeqAt.RcNeAt.lists_lengths (s:=s) (A:=A) px.isList py.isList (by simp only[List.size_toArray];simp;omega) hu'
  cases z:eqBs ds es with
  | false=>exact R
  | true=>exact absurd (jfj z) hl
theorem jzh{ρ:Rho}{pins:List (Addr×Obj)}{σ:St}{H:Hp}{s:Shared}(I:Inv X pins σ H s)(A:Around)(d e:D)(v u:V)(a b:Value)(hd:depD d≤20)(hu:A.units+24<cLine)(od:okD d=true)(oe:okD e=true)(rd:Rep ρ X.K H d v)(re:Rep ρ X.K H e u)(ra:RelV v a)(rb:RelV u b) :
  SeqAt.RcNeAt A s a b (!eqB d e):=by
 have hu':A.units<cLine:=by omega
 have seqT:∀ {es:List D} {w:V} {c:Value},Rep ρ X.K H (.tup es) w→RelV w c→∃ l its,c=.ref l∧s.heap.IsTuple l its:=fun h rc=>by
  obtain⟨l,xs,rfl,q1,_⟩:=rep_tup.mp h
  obtain⟨its,_,p,_⟩:=I.tuple q1
  exact⟨l,_,rc,p⟩
 have seqL:∀ {es:List D} {w:V} {c:Value},Rep ρ X.K H (.lst es) w→RelV w c→∃ l its,c=.ref l∧s.heap.IsList l its:=fun h rc=>by
  obtain⟨l,xs,rfl,q1,_⟩:=rep_lst.mp h
  obtain⟨its,_,p,_⟩:=I.list q1
  exact⟨l,_,rc,p.isList⟩
 cases d with
 | ty _=>unfold okD at od;cases od
 | obj _=>unfold okD at od;cases od
 | non =>
  cases e with
  | ty _=>unfold okD at oe;cases oe
  | obj _=>unfold okD at oe;cases oe
  | non=>cases rep_non.mp rd;cases ra;cases rep_non.mp re;cases rb;unfold eqB;exact SeqAt.RcNeAt.none_none
  | bl y=>cases rep_non.mp rd;cases ra;cases rep_bl.mp re;cases rb;unfold eqB;exact SeqAt.RcNeAt.none_bool _
  | int y=>cases rep_non.mp rd;cases ra;cases rep_int.mp re;obtain⟨t2,rfl⟩:=rb;unfold eqB;exact SeqAt.RcNeAt.none_int _ _
  | str y=>cases rep_non.mp rd;cases ra;cases rep_str.mp re;obtain⟨t2,rfl⟩:=rb;unfold eqB;exact SeqAt.RcNeAt.none_str _ _
  | tup y=>cases rep_non.mp rd;cases ra;obtain⟨l2,i2,rfl,p2⟩:=seqT re rb;unfold eqB;exact SeqAt.RcNeAt.none_tuple p2 hu'
  | lst y=>cases rep_non.mp rd;cases ra;obtain⟨l2,i2,rfl,p2⟩:=seqL re rb;unfold eqB;exact SeqAt.RcNeAt.none_list p2 hu'
 | bl x =>
  cases e with
  | ty _=>unfold okD at oe;cases oe
  | obj _=>unfold okD at oe;cases oe
  | non=>cases rep_bl.mp rd;cases ra;cases rep_non.mp re;cases rb;unfold eqB;exact SeqAt.RcNeAt.bool_none _
  | bl y=>cases rep_bl.mp rd;cases ra;cases rep_bl.mp re;cases rb;unfold eqB;exact SeqAt.RcNeAt.bool_bool _ _
  | int y=>cases rep_bl.mp rd;cases ra;cases rep_int.mp re;obtain⟨t2,rfl⟩:=rb;unfold eqB;exact SeqAt.RcNeAt.bool_int _ _ _
  | str y=>cases rep_bl.mp rd;cases ra;cases rep_str.mp re;obtain⟨t2,rfl⟩:=rb;unfold eqB;exact SeqAt.RcNeAt.bool_str _ _ _
  | tup y=>cases rep_bl.mp rd;cases ra;obtain⟨l2,i2,rfl,p2⟩:=seqT re rb;unfold eqB;exact SeqAt.RcNeAt.bool_tuple _ p2 hu'
  | lst y=>cases rep_bl.mp rd;cases ra;obtain⟨l2,i2,rfl,p2⟩:=seqL re rb;unfold eqB;exact SeqAt.RcNeAt.bool_list _ p2 hu'
 | int x =>
  cases e with
  | ty _=>unfold okD at oe;cases oe
  | obj _=>unfold okD at oe;cases oe
  | non=>cases rep_int.mp rd;obtain⟨t1,rfl⟩:=ra;cases rep_non.mp re;cases rb;unfold eqB;exact SeqAt.RcNeAt.int_none _ _
  | bl y=>cases rep_int.mp rd;obtain⟨t1,rfl⟩:=ra;cases rep_bl.mp re;cases rb;unfold eqB;exact SeqAt.RcNeAt.int_bool _ _ _
  | int y=>cases rep_int.mp rd;obtain⟨t1,rfl⟩:=ra;cases rep_int.mp re;obtain⟨t2,rfl⟩:=rb;unfold eqB;exact SeqAt.RcNeAt.int_int _ _ _ _
  | str y=>cases rep_int.mp rd;obtain⟨t1,rfl⟩:=ra;cases rep_str.mp re;obtain⟨t2,rfl⟩:=rb;unfold eqB;exact SeqAt.RcNeAt.int_str _ _ _ _
  | tup y=>cases rep_int.mp rd;obtain⟨t1,rfl⟩:=ra;obtain⟨l2,i2,rfl,p2⟩:=seqT re rb;unfold eqB;exact SeqAt.RcNeAt.int_tuple _ _ p2 hu'
  | lst y=>cases rep_int.mp rd;obtain⟨t1,rfl⟩:=ra;obtain⟨l2,i2,rfl,p2⟩:=seqL re rb;unfold eqB;exact SeqAt.RcNeAt.int_list _ _ p2 hu'
 | str x =>
  cases e with
  | ty _=>unfold okD at oe;cases oe
  | obj _=>unfold okD at oe;cases oe
  | non=>cases rep_str.mp rd;obtain⟨t1,rfl⟩:=ra;cases rep_non.mp re;cases rb;unfold eqB;exact SeqAt.RcNeAt.str_none _ _
  | bl y=>cases rep_str.mp rd;obtain⟨t1,rfl⟩:=ra;cases rep_bl.mp re;cases rb;unfold eqB;exact SeqAt.RcNeAt.str_bool _ _ _
  | int y=>cases rep_str.mp rd;obtain⟨t1,rfl⟩:=ra;cases rep_int.mp re;obtain⟨t2,rfl⟩:=rb;unfold eqB;exact SeqAt.RcNeAt.str_int _ _ _ _
  | str y=>cases rep_str.mp rd;obtain⟨t1,rfl⟩:=ra;cases rep_str.mp re;obtain⟨t2,rfl⟩:=rb;unfold eqB;exact SeqAt.RcNeAt.str_str _ _ _ _
  | tup y=>cases rep_str.mp rd;obtain⟨t1,rfl⟩:=ra;obtain⟨l2,i2,rfl,p2⟩:=seqT re rb;unfold eqB;exact SeqAt.RcNeAt.str_tuple _ _ p2 hu'
  | lst y=>cases rep_str.mp rd;obtain⟨t1,rfl⟩:=ra;obtain⟨l2,i2,rfl,p2⟩:=seqL re rb;unfold eqB;exact SeqAt.RcNeAt.str_list _ _ p2 hu'
 | tup x =>
  cases e with
  | ty _=>unfold okD at oe;cases oe
  | obj _=>unfold okD at oe;cases oe
  | non=>obtain⟨l1,i1,rfl,p1⟩:=seqT rd ra;cases rep_non.mp re;cases rb;unfold eqB;exact SeqAt.RcNeAt.tuple_none p1 hu'
  | bl y=>obtain⟨l1,i1,rfl,p1⟩:=seqT rd ra;cases rep_bl.mp re;cases rb;unfold eqB;exact SeqAt.RcNeAt.tuple_bool _ p1 hu'
  | int y=>obtain⟨l1,i1,rfl,p1⟩:=seqT rd ra;cases rep_int.mp re;obtain⟨t2,rfl⟩:=rb;unfold eqB;exact SeqAt.RcNeAt.tuple_int _ _ p1 hu'
  | str y=>obtain⟨l1,i1,rfl,p1⟩:=seqT rd ra;cases rep_str.mp re;obtain⟨t2,rfl⟩:=rb;unfold eqB;exact SeqAt.RcNeAt.tuple_str _ _ p1 hu'
  | tup y=>exact jqj I A hd hu od oe rd re ra rb
  | lst y=>obtain⟨l1,i1,rfl,p1⟩:=seqT rd ra;obtain⟨l2,i2,rfl,p2⟩:=seqL re rb;unfold eqB;exact SeqAt.RcNeAt.tuple_list p1 p2 hu'
 | lst x =>
  cases e with
  | ty _=>unfold okD at oe;cases oe
  | obj _=>unfold okD at oe;cases oe
  | non=>obtain⟨l1,i1,rfl,p1⟩:=seqL rd ra;cases rep_non.mp re;cases rb;unfold eqB;exact SeqAt.RcNeAt.list_none p1 hu'
  | bl y=>obtain⟨l1,i1,rfl,p1⟩:=seqL rd ra;cases rep_bl.mp re;cases rb;unfold eqB;exact SeqAt.RcNeAt.list_bool _ p1 hu'
  | int y=>obtain⟨l1,i1,rfl,p1⟩:=seqL rd ra;cases rep_int.mp re;obtain⟨t2,rfl⟩:=rb;unfold eqB;exact SeqAt.RcNeAt.list_int _ _ p1 hu'
  | str y=>obtain⟨l1,i1,rfl,p1⟩:=seqL rd ra;cases rep_str.mp re;obtain⟨t2,rfl⟩:=rb;unfold eqB;exact SeqAt.RcNeAt.list_str _ _ p1 hu'
  | tup y=>obtain⟨l1,i1,rfl,p1⟩:=seqL rd ra;obtain⟨l2,i2,rfl,p2⟩:=seqT re rb;unfold eqB;exact SeqAt.RcNeAt.list_tuple p1 p2 hu'
  | lst y=>exact js4 I A hd hu od oe rd re ra rb
theorem jkr(hu:X.A.units+30<cLine):OpR X (compareOp .NotEq) (rEqD X.K true):=by
 intro pins s σ H x y v u Q I rx ry h
 obtain⟨ρ,d,e,o1,o2,hd,r1,r2,q⟩:=h
 exact jzh I X.A d e x y v u hd (by omega) o1 o2 r1 r2 rx ry _ _ _ _ ⟨.bl (!eqB d e),H,I,rfl,q⟩
theorem jjn{ρ:Rho}{K:PySem.W.Frag}{H:Hp}{ds:List D}{xs:List V}{i:Int}{d:D}(h:Reps ρ K H ds xs)(e:atI ds i=some d):∃ v,atI xs i=some v∧Rep ρ K H d v:=by
 unfold atI at e ⊢
 rw[h.length]
 cases z:ixN ds.length i with
 | none=>rw[z] at e;cases e
 | some j=>rw[z] at e;exact h.get e
theorem jbe:OpD X.K gIx (rIx X.K):=by
 intro x y d hd ρ H G u v Q hG ru rv k
 unfold gIx at hd
 split at hd
 ·obtain⟨a,xs,rfl,q1,q2⟩:=rep_lst.mp ru
  obtain⟨w,e,r⟩:=jjn q2 hd
  exact .inl ⟨a,xs,_,w,rfl,rep_int.mp rv,jc1 jan q1,e,k w H (Same.refl H) r⟩
 ·obtain⟨a,xs,rfl,q1,q2⟩:=rep_tup.mp ru
  obtain⟨w,e,r⟩:=jjn q2 hd
  exact .inr (.inl ⟨a,xs,_,w,rfl,rep_int.mp rv,jcy jan q1,e,k w H (Same.refl H) r⟩)
 ·split at hd
  ·rename_i z i hz
   cases e:atI z.cps.toList i with
   | none=>rw[e] at hd;cases hd
   | some c =>
    rw[e] at hd
    cases hd
    exact .inr (.inr ⟨z,i,c,rep_str.mp ru,rep_int.mp rv,hz,e,k _ H (Same.refl H) (rep_str.mpr rfl)⟩)
  ·cases hd
 ·cases hd
noncomputable def kLen:List D→Option D
 | [.lst ds]=>some (.int ds.length)
 | [.tup ds]=>some (.int ds.length)
 | [.str z]=>if z.length≤sizeLine then some (.int z.length) else none
 | _=>none
theorem jhu{ρ:Rho}{K:PySem.W.Frag}{H:Hp}{d:D}{vs:List V}(h:Reps ρ K H [d] vs):∃ v,vs=[v]∧Rep ρ K H d v:=by
 obtain⟨v,r,rfl,q1,q2⟩:=reps_cons.mp h
 cases reps_nil.mp q2
 exact⟨v,rfl,q1⟩
theorem jk0{ρ:Rho}{K:PySem.W.Frag}{H:Hp}{d e:D}{vs:List V}(h:Reps ρ K H [d,e] vs):∃ v u,vs=[v,u]∧Rep ρ K H d v∧Rep ρ K H e u:=by
 obtain⟨v,r,rfl,q1,q2⟩:=reps_cons.mp h
 obtain⟨u,rfl,q3⟩:=jhu q2
 exact⟨v,u,rfl,q1,q3⟩
theorem jgu:CallR X (.builtin "len") (fun xs H Q=>(∃ p ys,xs=[.ref p]∧(SqL X.K H p ys∨SqT X.K H p ys)∧Q (.int ys.length) H)∨∃ z,xs=[.str z]∧z.length≤sizeLine∧Q (.int z.length) H):=call_len_seq.or jj4
theorem jli:CaD X.K kLen (fun xs H Q=>(∃ p ys,xs=[.ref p]∧(SqL X.K H p ys∨SqT X.K H p ys)∧Q (.int ys.length) H)∨∃ z,xs=[.str z]∧z.length≤sizeLine∧Q (.int z.length) H):=by
 intro xs d hd ρ H G us Q hG ru k
 unfold kLen at hd
 split at hd
 ·cases hd
  obtain⟨v,rfl,q⟩:=jhu ru
  obtain⟨a,ys,rfl,q1,q2⟩:=rep_lst.mp q
  exact .inl ⟨a,ys,rfl,.inl (jc1 jan q1),k _ H (Same.refl H) (rep_int.mpr (by rw[q2.length]))⟩
 ·cases hd
  obtain⟨v,rfl,q⟩:=jhu ru
  obtain⟨a,ys,rfl,q1,q2⟩:=rep_tup.mp q
  exact .inl ⟨a,ys,rfl,.inr (jcy jan q1),k _ H (Same.refl H) (rep_int.mpr (by rw[q2.length]))⟩
 ·split at hd
  ·rename_i z hz
   cases hd
   obtain⟨v,rfl,q⟩:=jhu ru
   cases rep_str.mp q
   exact .inr ⟨z,rfl,hz,k _ H (Same.refl H) (rep_int.mpr rfl)⟩
  ·cases hd
 ·cases hd
noncomputable def kTuple:List D→Option D
 | [.lst ds]=>some (.tup ds)
 | [.tup ds]=>some (.tup ds)
 | _=>none
noncomputable def jBw:List D→Option D
 | [.lst ds]=>some (.lst ds)
 | [.tup ds]=>some (.lst ds)
 | _=>none
noncomputable def kMin:List D→Option D
 | [.int i,.int j]=>some (.int (if j<i then j else i))
 | _=>none
noncomputable def kMax:List D→Option D
 | [.int i,.int j]=>some (.int (if j > i then j else i))
 | _=>none
theorem ju9:CaD X.K kMax (fun xs H Q=>∃ i j,xs=[.int i,.int j]∧Q (.int (if j > i then j else i)) H):=by
 intro xs d hd ρ H G us Q hG ru k
 unfold kMax at hd
 split at hd
 ·cases hd
  obtain⟨v,u,rfl,q1,q2⟩:=jk0 ru
  cases rep_int.mp q1
  cases rep_int.mp q2
  exact⟨_,_,rfl,k _ H (Same.refl H) (rep_int.mpr rfl)⟩
 ·cases hd
noncomputable def kInt:List D→Option D
 | [.int i]=>some (.int i)
 | [.bl k]=>some (.int (if k then 1 else 0))
 | _=>none
noncomputable def jyq:List D→Option (List Int)
 | []=>some []
 | .int i::ds=>(jyq ds).map (i::·)
 | _::_=>none
noncomputable def isiD(T:String):D→Option Bool
 | .non=>some (T == "NoneType")
 | .bl _=>some (T == "bool" || T == "int")
 | .int _=>some (T == "int")
 | .str _=>some (T == "str")
 | .tup _=>some (T == "tuple")
 | .lst _=>some (T == "list")
 | _=>none
noncomputable def kIsi:List D→Option D
 | [d,.ty T]=>if T="int"∨T="bool"∨T="tuple"∨T="list"∨T="str" then (isiD T d).map .bl else none
 | _=>none
end
section
variable {X:Cx}
noncomputable def rIsi(K:PySem.W.Frag):List V→Hp→VK→Prop:=fun xs H Q=>∃ ρ d v T b,xs=[v,.ty T]∧Rep ρ K H d v∧kIsi [d,.ty T]=some (.bl b)∧Q (.bl b) H
theorem joz:CallR X (.builtin "isinstance") (rIsi X.K):=by
 intro pins s σ H xs us Q I r h
 obtain⟨ρ,d,v,T,b,rfl,rd,hk,q⟩:=h
 obtain⟨u,c,rfl,ru,rc⟩:=r.two
 cases rc
 have fin:∀ tk,EP X pins σ Q (.bool b) { s with toks:=tk }:=fun tk=>⟨.bl b,H,I.tok _,rfl,q⟩
 have hk2:(if T="int"∨T="bool"∨T="tuple"∨T="list"∨T="str" then (isiD T d).map D.bl else none)=some (.bl b):=hk
 clear hk
 by_cases hT:T="int"∨T="bool"∨T="tuple"∨T="list"∨T="str"
 ·rw[if_pos hT] at hk2
  have hk:=hk2
  clear hk2
  cases d with
  | ty _=>cases hk
  | obj _=>cases hk
  | non =>
   cases rep_non.mp rd;cases ru
   rcases hT with rfl|rfl|rfl|rfl|rfl<;>(cases hk;exact PySem.W.kia_one PySem.W.kitx_none I.kIn True.intro rfl (fun z=>nomatch z) fin)
  | bl x =>
   cases rep_bl.mp rd;cases ru
   rcases hT with rfl|rfl|rfl|rfl|rfl<;>(cases hk;exact PySem.W.kia_one PySem.W.kitx_bool I.kIn True.intro rfl (fun z=>nomatch z) fin)
  | int x =>
   cases rep_int.mp rd;obtain⟨t,rfl⟩:=ru
   rcases hT with rfl|rfl|rfl|rfl|rfl<;>(cases hk;exact PySem.W.kia_one PySem.W.kitx_int I.kIn True.intro rfl (fun z=>nomatch z) fin)
  | str x =>
   cases rep_str.mp rd;obtain⟨t,rfl⟩:=ru
   rcases hT with rfl|rfl|rfl|rfl|rfl<;>(cases hk;exact PySem.W.kia_one PySem.W.kitx_str I.kIn True.intro rfl (fun z=>nomatch z) fin)
  | tup x =>
   obtain⟨a,ys,rfl,q1,q2⟩:=rep_tup.mp rd
   cases ru
   obtain⟨its,_,⟨o,e,hc,_⟩,_⟩:=I.tuple q1
   rcases hT with rfl|rfl|rfl|rfl|rfl<;>(cases hk;exact PySem.W.kia_one PySem.W.kitx_tuple I.kIn ⟨o,e,hc⟩ rfl (fun z=>nomatch z) fin)
  | lst x =>
   obtain⟨a,ys,rfl,q1,q2⟩:=rep_lst.mp rd
   cases ru
   obtain⟨its,_,p,_⟩:=I.list q1
   obtain⟨o,e,hc,_⟩:=p.isList
   rcases hT with rfl|rfl|rfl|rfl|rfl<;>(cases hk;exact PySem.W.kia_one PySem.W.kitx_list I.kIn ⟨o,e,hc⟩ rfl (fun z=>nomatch z) fin)
 ·rw[if_neg hT] at hk2;cases hk2
theorem jo7{O:List Nat}{E:XK}{x:Str}{T:String}{pos:Pos}(hg:Gl X x)(hm:X.mg x=none)(hv:bootBuiltins x=some (.type T))(hn:autoParam (x≠"__name__") zau1._auto_1)(hd:autoParam ((x == ("__debug__":Str))=false) zau1._auto_1):DE X O E (.Name x pos) (fC (.ty T)) :=
 jj9 (t:=tC (.ty T)) (v:=.ty T) (jwm (v:=.ty T) hg hm hv rfl hn hd) fun _ _=>rep_ty.mpr rfl
end
inductive spD(K:PySem.W.Frag)(n:Nat)(m:List D→M D)(vs:List V)(H:Hp)(Q:VK)(E:XK):Prop
 | mk (hn:vs.length=n) (ρ:Rho) (ds:List D) (r:Except XD D) (F:Addr→Bool) (hF:∀ b,F b=true→H b≠none) (hr:Reps ρ K (hid H F) ds vs) (hf:m ds=some r) (k:match (generalizing:=false) r with
  | .ok d=>∀ v H',Same H H'→Rep ρ K (hid H' F) d v→Q v H'
  | .error x=>okX K H E x)
inductive CalX(P:Program)(w:World)(K:PySem.W.Frag)(mg:Str→Option Value)(base:Heap)(k:Nat)(x:Str)(n:Nat)(sp:Sp):Prop
 | mk (f:Addr) (fd:FuncData) (ps:List Str) (h1:ps.length=n) (h2:mg x=some (.ref f)) (h3:PySem.W.keepIn K (.ref f)=true) (h4:Binds K fd ps []) (h5:FnOk P w K mg base CX0 k f fd ps sp)
structure Cal(P:Program)(w:World)(K:PySem.W.Frag)(mg:Str→Option Value)(base:Heap)(k:Nat)(x:Str)(n:Nat)(m:List D→M D):Prop where
 ex:CalX P w K mg base k x n (spD K n m)
 ar:∀ ds r,m ds=some r→ds.length=n
noncomputable def jfx(K:PySem.W.Frag)(mg:Str→Option Value)(x:Str)(st:Stmt)(ps:List Str):Prop:=∃ f fd,mg x=some (.ref f)∧Fun K x x st f fd∧Binds K fd ps []
noncomputable def startD(n:Nat)(ds:List D):DSt:=ds.map some++List.replicate (n-ds.length) none
noncomputable def outD:Out→M D
 | .rt d=>M.p d
 | .nx _=>M.p .non
 | _=>none
noncomputable def mir(n N:Nat)(g:DSt→M Out):List D→M D:=fun ds=>if ds.length=n then (g (startD N ds)).b outD else none
theorem jit{N:Nat}{ds:List D}{i:Nat}{d:D}(h:(startD N ds)[i]? = some (some d)):ds[i]? = some d:=by
 unfold startD at h
 by_cases hi:i<ds.length
 ·rw[List.getElem?_append_left (by simpa using hi),List.getElem?_map] at h
  cases e:ds[i]? with
  | none=>rw[e] at h;cases h
  | some a=>rw[e] at h;cases h;rfl
 ·rw[List.getElem?_append_right (by simpa using hi),List.getElem?_replicate] at h
  split at h<;>cases h
theorem jk9{N:List Str}{vs:List V}{i:Nat}{v:V}(h:vs[i]? = some v):(L2.start N vs)[i]? = some (some v):=by
 unfold L2.start
 have hi:i<vs.length:=(List.getElem?_eq_some_iff.mp h).1
 rw[List.getElem?_append_left (by simpa using hi),List.getElem?_map,h]
 rfl
section
variable {P:Program}{w:World}{K:PySem.W.Frag}{mg:Str→Option Value}{base:Heap}
theorem fn_D{x:Str}{st:Stmt}{N ps:List Str}{k:Nat}{O':List Nat}{g:DSt→M Out}{f:Addr}{fd:FuncData}(F:Fun K x x st f fd)(S:FnScope N ps (jab st))
  (hbody:∀ (f:Addr) (cdv:Value) (A:Around) (outer:List Env) (s:Shared) (H:Hp) (E:XK),Room k (A.deeper (PyProof.Rows.envOfC x (jab st) s.heap.objs.size f cdv)) →
   DSs (cxOf CX0 P w K mg base N x (jab st) f cdv A outer s H E).nox [] O' [] E (jak st) g):FnOk P w K mg base CX0 (k+1) f fd ps (spD K ps.length (mir ps.length N.length g)):=by
 refine F.ok S (fun vs H Q E h=>h.1) fun cdv A outer s H vs Q E hr h=>?_
 obtain⟨hl,ρ,ds,r,F',fin,rp,hmr,k0⟩:=h
 refine⟨_,hbody f cdv A outer s H E hr,?_⟩
 have hpl:ps.length≤N.length:=by have:=congrArg List.length S.pre;rw[List.length_take] at this;omega
 have hdl:ds.length=ps.length:=by rw[← rp.length];exact hl
 unfold mir at hmr
 rw[if_pos hdl] at hmr
 have R:RS ρ K H H F' [] (L2.start N vs) (startD N.length ds):=by
  refine⟨?_,Same.refl H,fin,fun i d hd _=>?_,fun i hi=>absurd hi (by simp),fun i hi=>absurd hi (by simp)⟩
  ·simp[L2.start,startD,rp.length]
  ·obtain⟨v,e,rv⟩:=rp.get (jit hd)
   exact⟨v,jk9 e,by rw[ja3];exact rv⟩
 rcases M.b_inv hmr with ⟨o,e1,hmr⟩|⟨y,e1,rfl⟩
 ·refine⟨ρ,H,F',_,.ok o,R,e1,?_⟩
  cases o with
  | rt d=>cases hmr;exact fun v H' s' rv=>k0 v H' s' rv
  | nx δ=>cases hmr;exact fun σ' H' f' R'=>k0 .non H' R'.same (rep_non.mpr rfl)
  | bk δ=>cases hmr
  | ct δ=>cases hmr
 ·exact⟨ρ,H,F',_,.error y,R,e1,k0⟩
theorem jox{x:Str}{st:Stmt}{N ps:List Str}{k:Nat}{O':List Nat}{g:DSt→M Out}(hf:jfx K mg x st ps)(S:FnScope N ps (jab st))
  (hbody:∀ (f:Addr) (cdv:Value) (A:Around) (outer:List Env) (s:Shared) (H:Hp) (E:XK),Room k (A.deeper (PyProof.Rows.envOfC x (jab st) s.heap.objs.size f cdv)) →
   DSs (cxOf CX0 P w K mg base N x (jab st) f cdv A outer s H E).nox [] O' [] E (jak st) g):Cal P w K mg base (k+1) x ps.length (mir ps.length N.length g):=by
 obtain⟨f,fd,hm,F,hb⟩:=hf
 refine⟨⟨f,fd,ps,rfl,hm,F.kp,hb,fn_D F S hbody⟩,fun ds r h=>?_⟩
 unfold mir at h
 split at h
 ·assumption
 ·cases h
theorem jc5{h:Heap}{x:Str}{st:Stmt}{ps:List Str}{f:Addr}{oc:Value}{od an:Option Addr}{osl:Array (Option Value)}{kV doc pm cdv ct:Value}(X:K.In h)(G:h.Ns mainGlobals mg)
  (hb:∀ (kV doc pm:Value) (an:Option Addr) (cdv ct:Value) (us:List Value),us.length=ps.length→bindArgs (PySem.W.fnOf x x (jay st) (jak st) (jab st) .none kV doc pm an cdv ct) ⟨us,[]⟩=pure (ps.zip us))
  (a:PySem.W.nsIn K mainGlobals x=some (some (.ref f))) (l:K.lookup f=some ⟨oc,od,.func (PySem.W.fnOf x x (jay st) (jak st) (jab st) .none kV doc pm an cdv ct),osl⟩)
  (c:PySem.W.codeIn K cdv x=true) (k:PySem.W.keepIn K (.ref f)=true):jfx K mg x st ps:=by
 have F:=jpi (st:=st) l c k
 exact⟨f,_,PySem.W.mg_of X G a,F,F.binds hb⟩
theorem jph{st:Stmt}{x:Str}{f:Addr}(hf:jfx K mg "law" st [x])(hm:mg "law"=some (.ref f))
  (hb:∀ (kV doc pm:Value) (an:Option Addr) (cdv ct:Value) (s:Shared) (u:Value),BindsTo s (PySem.W.fnOf "law" "law" (jay st) (jak st) (jab st) .none kV doc pm an cdv ct) ⟨[u],[]⟩ [(x,u)]) :
  ∃ fd,Fun K "law" "law" st f fd∧∀ (s:Shared) (u:Value),BindsTo s fd ⟨[u],[]⟩ [(x,u)]:=by
 obtain⟨f',fd,hm',F,_⟩:=hf
 rw[hm] at hm'
 cases hm'
 refine⟨fd,F,fun s u=>?_⟩
 obtain⟨oc,od,kV,doc,pm,an,cdv,ct,osl,rfl,lk,hcd⟩:=F.ex
 exact hb kV doc pm an cdv ct s u
end
noncomputable def jeh(m:List D→M D)(fl:DSt→M (List D)):DSt→M D:=fun δ=>(fl δ).b m
section
variable {X:Cx}{O:List Nat}{E:XK}{e:Expr}{es:List Expr}{fl:DSt→M (List D)}{pos p:Pos}{x:Str}{k n:Nat}{m:List D→M D}
theorem jee(C:Cal X.prog X.w X.K X.mg X.base k x n m)(hr:Room k X.A)(ha:DA X O E (e::es) fl)(hg:autoParam (Gl X x) zau2._auto_1)(hdb:autoParam ((x == ("__debug__":Str))=false) zau1._auto_1)(he:autoParam (starEach (e::es) X.env=(false,eval e X.env)::starEach es X.env) zau2._auto_1)
  (hpl:autoParam ((backTo pos (starEach es X.env)).any (·.1)=false) zau2._auto_1):DE X O E (.Call (.Name x p) (e::es) [] pos) (jeh m fl):=by
 obtain⟨f,fd,ps,hl,hm,hk,hb,F⟩:=C.ex
 rintro pins s σ H Q I ⟨ρ,H₀,G,δ,r,R,hf,h⟩
 refine jqv F hr hg hm hk hb .nil (fun _ _ _ _ _ _ _ z=>z.elim) ha hdb he hpl pins s σ H Q I (E:=E) ?_
 rcases M.b_inv hf with ⟨ds,e1,hf⟩|⟨y,e1,rfl⟩
 ·refine⟨ρ,H₀,G,δ,.ok ds,R,e1,fun vs H1 s1 r1=>?_⟩
  show spD X.K n m (vs++[]) H1 Q E
  rw[List.append_nil]
  refine⟨by rw[r1.length];exact C.ar ds r hf,ρ,ds,r,fob G σ O,fun b hb z=>?_,r1,hf,?_⟩
  ·rw[(R.mono s1).fresh z] at hb;cases hb
  ·cases r with
   | ok d=>exact fun v H' s' rv=>h v H' (s1.trans s') rv
   | error y=>exact fun c dx H' s' xr=>h c dx H' (R.same.trans (s1.trans s')) xr
 ·exact⟨ρ,H₀,G,δ,.error y,R,e1,h⟩
end
theorem hu30{A:Around}{k:Nat}(hr:Room k A):A.units+30<cLine:=Nat.lt_of_le_of_lt (Nat.add_le_add_left (by decide:30≤64) _) hr.units
theorem jov:bootBuiltins "len"=some (.builtin "len"):=by decide +kernel
theorem jxv:bootBuiltins "max"=some (.builtin "max"):=by decide +kernel
theorem ji2:bootBuiltins "isinstance"=some (.builtin "isinstance"):=by decide +kernel
theorem jrw:bootBuiltins "tuple"=some (.type "tuple"):=by decide +kernel
theorem ji3:bootBuiltins "list"=some (.type "list"):=by decide +kernel
theorem jrv:bootBuiltins "range"=some (.type "range"):=by decide +kernel
theorem jxu:bootBuiltins "all"=some (.builtin "all"):=by decide +kernel
theorem jj3:bootBuiltins "sorted"=some (.builtin "sorted"):=by decide +kernel
noncomputable def gCat:D→D→Option D
 | .int i,.int j=>some (.int (i+j))
 | .str x,.str y=>if x.length+y.length≤sizeLine then some (.str (x++y)) else none
 | .lst xs,.lst ys=>if xs.length+ys.length≤sizeLine then some (.lst (xs++ys)) else none
 | .tup xs,.tup ys=>if xs.length+ys.length≤sizeLine∧xs≠[]∧ys≠[] then some (.tup (xs++ys)) else none
 | _,_=>none
noncomputable def jwy(K:PySem.W.Frag):R2:=fun x y H Q=>∃ l b xs zs,x=.ref l∧y=.ref b∧SqL K H l xs∧SqL K H b zs∧xs.length+zs.length≤sizeLine∧∀ p,H p=none→Q (.ref p) (upd H p (.lst (xs++zs)))
section
variable {X:Cx}{O O' B:List Nat}{E:XK}{a b c e:Expr}{es:List Expr}{fa fb fc:DSt→M D}{fl:DSt→M (List D)}{pos:Pos}
theorem op_catQ:OpR X (binaryOp .Add) (jwy X.K):=by
 intro pins s σ H x y v u Q I rx ry h
 obtain⟨l,b,xs,zs,rfl,rfl,hH,hB,hz,q⟩:=h
 cases rx
 cases ry
 obtain⟨its,r,⟨⟨cls,dd,data,sl⟩,n,ho,hc,_,hd⟩,_⟩:=I.list hH
 obtain⟨its2,r2,⟨⟨cls2,dd2,data2,sl2⟩,n2,ho2,hc2,_,hd2⟩,_⟩:=I.list hB
 simp only at hc hd hc2 hd2
 subst hc hd hc2 hd2
 have l1:=r.length
 have l2:=r2.length
 have ea:its.toArray++its2.toArray=(its++its2).toArray:=by simp
 refine concat_meets ⟨_,ho,rfl⟩ ⟨_,ho2,rfl⟩ noFill_list_add seq_list_add PySem.F.slot_list_add PySem.F.entry_list_add (PySem.F.args_list_add_2 _ _) (PyProof.Rows.list_addW l b its.toArray its2.toArray n n2 dd dd2 sl sl2 (by simp only[List.size_toArray];omega)) ⟨ho,ho2,?_⟩
 rw[ea]
 exact⟨.ref _,_,I.lnew (t':=s.toks) (r.append r2) (by rw[List.length_append];omega),rfl,q _ I.fresh⟩
theorem jb1:OpR X (binaryOp .Add) (fun x y H Q=>(rI0 (fun i j=>.int (i+j)) x y H Q∨∃ i j,x=.str i∧y=.str j∧i.length+j.length≤sizeLine∧Q (.str (i++j)) H)∨jwy X.K x y H Q∨jwz X.K x y H Q):=op_addD.or (op_catQ.or jwi)
theorem jb2:OpD X.K gCat (fun x y H Q=>(rI0 (fun i j=>.int (i+j)) x y H Q∨∃ i j,x=.str i∧y=.str j∧i.length+j.length≤sizeLine∧Q (.str (i++j)) H)∨jwy X.K x y H Q∨jwz X.K x y H Q):=by
 intro x y d hd ρ H G u v Q hG ru rv k
 unfold gCat at hd
 split at hd
 ·cases hd;exact .inl (.inl ⟨_,_,rep_int.mp ru,rep_int.mp rv,k _ H (Same.refl H) (rep_int.mpr rfl)⟩)
 ·split at hd
  ·rename_i hz
   cases hd;exact .inl (.inr ⟨_,_,rep_str.mp ru,rep_str.mp rv,hz,k _ H (Same.refl H) (rep_str.mpr rfl)⟩)
  ·cases hd
 ·split at hd
  ·rename_i hz
   cases hd
   obtain⟨l,xs,rfl,q1,q2⟩:=rep_lst.mp ru
   obtain⟨m,ys,rfl,p1,p2⟩:=rep_lst.mp rv
   exact .inr (.inl ⟨l,m,xs,ys,rfl,rfl,jc1 jan q1,jc1 jan p1,by rw[q2.length,p2.length];exact hz,fun p hp=>k _ _ (jal hp) (jdj hp (hG p hp) (q2.append p2))⟩)
  ·cases hd
 ·split at hd
  ·rename_i hz
   cases hd
   obtain⟨l,xs,rfl,q1,q2⟩:=rep_tup.mp ru
   obtain⟨m,ys,rfl,p1,p2⟩:=rep_tup.mp rv
   have n1:xs≠[]:=fun z=>by have:=q2.length;rw[z] at this;exact hz.2.1 (List.length_eq_zero_iff.mp this.symm)
   have n2:ys≠[]:=fun z=>by have:=p2.length;rw[z] at this;exact hz.2.2 (List.length_eq_zero_iff.mp this.symm)
   exact .inr (.inr ⟨l,m,xs,ys,rfl,rfl,jcy jan q1,jcy jan p1,n1,by rw[q2.length,p2.length];exact hz.1,fun z=>absurd z n2,fun _ p hp=>k _ _ (jal hp) (jbc hp (hG p hp) (q2.append p2))⟩)
  ·cases hd
 ·cases hd
theorem Reps.rep{ρ:Rho}{K:PySem.W.Frag}{H:Hp}{ds:List D}{vs:List V}(h:Reps ρ K H ds vs):∀ k:Nat,Reps ρ K H (List.replicate k ds).flatten (List.replicate k vs).flatten
 | 0=>Reps.nil
 | k+1=>by rw[List.replicate_succ,List.flatten_cons,List.replicate_succ,List.flatten_cons];exact h.append (Reps.rep h k)
inductive tOD(K:PySem.W.Frag)(O:List Nat)(E:XK)(f:DSt→M (Option Int))(σ:St)(H:Hp)(Q:Option Int→Hp→Prop):Prop
 | mk (ρ:Rho) (H₀:Hp) (F:Addr→Bool) (δ:DSt) (r:Except XD (Option Int)) (R:RS ρ K H₀ H F O σ δ) (hf:f δ=some r) (k:match (generalizing:=false) r with
  | .ok o=>∀ H',Same H H'→Q o H'
  | .error x=>okX K H₀ E x)
noncomputable def DO(X:Cx)(O:List Nat)(E:XK)(e:Option Expr)(f:DSt→M (Option Int)):Prop:=PO X e (tOD X.K O E f)
noncomputable def jf1:DSt→M (Option Int):=fun _=>M.p none
noncomputable def intD:D→Option (Option Int)
 | .int i=>some (some i)
 | _=>none
noncomputable def jec(f:DSt→M D):DSt→M (Option Int):=fun δ=>(f δ).b fun d=>M.o (intD d)
theorem jlk:DO X O E none jf1:=by
 rintro pins s σ H Q I ⟨ρ,H₀,F,δ,r,R,hf,k⟩
 cases hf
 exact jws pins s σ H Q I (k H (Same.refl H))
theorem jg2(h:DE X O E e fa):DO X O E (some e) (jec fa):=by
 rintro pins s σ H Q I ⟨ρ,H₀,F,δ,r,R,hf,k⟩
 refine jwt h pins s σ H Q I ?_
 rcases M.b_inv hf with ⟨x,e1,hf⟩|⟨x,e1,rfl⟩
 ·refine⟨ρ,H₀,F,δ,.ok x,R,e1,fun v H1 s1 r1=>?_⟩
  obtain⟨o,ho,rfl⟩:=M.o_inv hf
  cases x with
  | int i=>cases ho;exact⟨i,rep_int.mp r1,k H1 s1⟩
  | _=>cases ho
 ·exact⟨ρ,H₀,F,δ,.error x,R,e1,k⟩
noncomputable def cutL{α:Type}(xs:List α)(lo hi:Option Int):List α:=(xs.drop (HT.sIx xs.length 0 lo)).take (HT.sIx xs.length xs.length hi-HT.sIx xs.length 0 lo)
noncomputable def cutD:D→Option Int→Option Int→Option D
 | .lst ds,lo,hi=>some (.lst (cutL ds lo hi))
 | .tup ds,lo,hi=>if HT.sIx ds.length 0 lo=0∧HT.sIx ds.length ds.length hi=ds.length then none else some (.tup (cutL ds lo hi))
 | .str x,lo,hi=>if x.length≤sizeLine then some (.str (Txt.slice x lo hi)) else none
 | _,_,_=>none
noncomputable def rSlS:V→Option Int→Option Int→Hp→VK→Prop:=fun x lo hi H Q=>∃ z,x=.str z∧z.length≤sizeLine∧Q (.str (Txt.slice z lo hi)) H
theorem jAk:SlR X rSlS:=by
 intro pins s σ H x v vl vu lo hi sl Q I rx hs pl pu h
 obtain⟨z,rfl,hz,q⟩:=h
 obtain⟨t,rfl⟩:=rx
 have fin:∀ {l u:Option (Int×Tok)},l.map (·.1)=lo→u.map (·.1)=hi→s.heap.IsSlice sl l u none→wpAny (model X.prog X.w) X.A (getItem (.str z t) (.ref sl)) (EP X pins σ Q) X.xe s:=fun {l u} e1 e2 h=>by
  refine wpAny_getItem_str_slice (l:=l) (u:=u) (st:=none) h rfl ?_
  have hw:∀ t' k,EP X pins σ Q (.str (Txt.slice z lo hi) t') { s with toks:=k }:=fun t' k=>⟨.str (Txt.slice z lo hi),H,I.tok _,⟨_,rfl⟩,q⟩
  rw[← e1,← e2] at hw
  exact post_val_or_str ⟨Nat.le_trans (Txt.slice_le z _ _) hz,hw⟩
 obtain⟨os,ho,hc,hd⟩:=hs
 refine⟨"str",_,PySem.F.slot_str_getitem.lookup,typeIs_str _ _ _,?_⟩
 cases pl with
 | none=>cases pu with
  | none=>exact fin (l:=none) (u:=none) rfl rfl ⟨os,ho,hc,hd⟩
  | int j tj=>exact fin (l:=none) (u:=some (j,tj)) rfl rfl ⟨os,ho,hc,hd⟩
 | int i ti=>cases pu with
  | none=>exact fin (l:=some (i,ti)) (u:=none) rfl rfl ⟨os,ho,hc,hd⟩
  | int j tj=>exact fin (l:=some (i,ti)) (u:=some (j,tj)) rfl rfl ⟨os,ho,hc,hd⟩
theorem Reps.take{ρ:Rho}{K:PySem.W.Frag}{H:Hp}:∀ {ds:List D} {vs:List V} (n:Nat),Reps ρ K H ds vs→Reps ρ K H (ds.take n) (vs.take n)
 | _,_,0,_=>by simp;exact Reps.nil
 | [],_,n+1,h=>by rw[reps_nil.mp h];exact Reps.nil
 | d::ds,_,n+1,h=>by
  obtain⟨v,r,rfl,q,t⟩:=reps_cons.mp h
  exact Reps.cons q (Reps.take n t)
theorem Reps.drop{ρ:Rho}{K:PySem.W.Frag}{H:Hp}:∀ {ds:List D} {vs:List V} (n:Nat),Reps ρ K H ds vs→Reps ρ K H (ds.drop n) (vs.drop n)
 | _,_,0,h=>h
 | [],_,n+1,h=>by rw[reps_nil.mp h];exact Reps.nil
 | d::ds,_,n+1,h=>by
  obtain⟨v,r,rfl,q,t⟩:=reps_cons.mp h
  exact Reps.drop n t
theorem Reps.cut{ρ:Rho}{K:PySem.W.Frag}{H:Hp}{ds:List D}{vs:List V}(h:Reps ρ K H ds vs)(lo hi:Option Int):Reps ρ K H (cutL ds lo hi) (cutV vs lo hi):=by
 unfold cutL cutV
 rw[h.length]
 exact (h.drop _).take _
noncomputable def fSl(fa:DSt→M D)(fl fh:DSt→M (Option Int)):DSt→M D:=fun δ=>(fa δ).b fun x=>(fl δ).b fun lo=>(fh δ).b fun hi=>M.o (cutD x lo hi)
theorem ji7{lo hi:Option Expr}{fl fh:DSt→M (Option Int)}{p2:Pos}(ha:DE X O E e fa)(hl:DO X O E lo fl)(hh:DO X O E hi fh):DE X O E (.Subscript e (.Slice lo hi none p2) pos) (fSl fa fl fh):=by
 rintro pins s σ H Q I ⟨ρ,H₀,F,δ,r,R,hf,k⟩
 refine jm8 (sl_list.or (sl_tup.or jAk)) ha hl hh pins s σ H Q I ?_
 rcases M.b_inv hf with ⟨x,e1,hf⟩|⟨x,e1,rfl⟩
 ·refine⟨ρ,H₀,F,δ,.ok x,R,e1,fun v H1 s1 r1=>?_⟩
  rcases M.b_inv hf with ⟨l,e2,hf⟩|⟨y,e2,rfl⟩
  ·refine⟨ρ,H₀,F,δ,.ok l,R.mono s1,e2,fun H2 s2=>?_⟩
   rcases M.b_inv hf with ⟨h,e3,hf⟩|⟨y,e3,rfl⟩
   ·refine⟨ρ,H₀,F,δ,.ok h,R.mono (s1.trans s2),e3,fun H3 s3=>?_⟩
    obtain⟨d,hd,rfl⟩:=M.o_inv hf
    have r3:=r1.mono (jaf (s2.trans s3))
    have R3:=R.mono (s1.trans (s2.trans s3))
    have sm:=s1.trans (s2.trans s3)
    cases x with
    | lst ds =>
     cases hd
     obtain⟨q,xs,rfl,q2,q3⟩:=rep_lst.mp r3
     exact .inl ⟨q,xs,rfl,jc1 jan q2,fun p hp=>k _ _ (sm.trans (jal hp)) (jdj hp (R3.fresh hp) (q3.cut l h))⟩
    | tup ds =>
     have hd':(if HT.sIx ds.length 0 l=0∧HT.sIx ds.length ds.length h=ds.length then none else some (D.tup (cutL ds l h)))=some d:=hd
     split at hd'
     ·cases hd'
     ·rename_i hn
      cases hd'
      obtain⟨q,xs,rfl,q2,q3⟩:=rep_tup.mp r3
      exact .inr (.inl ⟨q,xs,rfl,jcy jan q2,by rw[q3.length];exact hn,fun p hp=>k _ _ (sm.trans (jal hp)) (jbc hp (R3.fresh hp) (q3.cut l h))⟩)
    | str z =>
     have hd':(if z.length≤sizeLine then some (D.str (Txt.slice z l h)) else none)=some d:=hd
     split at hd'
     ·rename_i hz
      cases hd'
      exact .inr (.inr ⟨z,rep_str.mp r3,hz,k _ _ sm (rep_str.mpr rfl)⟩)
     ·cases hd'
    | _=>cases hd
   ·exact⟨ρ,H₀,F,δ,.error y,R.mono (s1.trans s2),e3,k⟩
  ·exact⟨ρ,H₀,F,δ,.error y,R.mono s1,e2,k⟩
 ·exact⟨ρ,H₀,F,δ,.error x,R,e1,k⟩
noncomputable def jfw:D→Bool
 | .non=>true
 | .bl _=>true
 | .int _=>true
 | .str _=>true
 | .ty _=>true
 | .obj _=>true
 | _=>false
noncomputable def jyl(f:DSt→M D):DSt→M D:=fun δ=>(f δ).b fun d=>if jfw d=true then M.p d else none
theorem jng{ρ:Rho}{K:PySem.W.Frag}{H H':Hp}{d:D}{v:V}(h:jfw d=true)(r:Rep ρ K H d v):Rep ρ K H' d v:=by
 cases d with
 | non=>exact rep_non.mpr (rep_non.mp r)
 | bl _=>exact rep_bl.mpr (rep_bl.mp r)
 | int _=>exact rep_int.mpr (rep_int.mp r)
 | str _=>exact rep_str.mpr (rep_str.mp r)
 | ty _=>exact rep_ty.mpr (rep_ty.mp r)
 | obj _=>exact rep_obj.mpr (rep_obj.mp r)
 | _=>cases h
noncomputable def gAug(i:Nat)(g:D→D→Option D)(f:DSt→M D):DSt→M Out:=fun δ=>(M.o (δ[i]?).join).b fun x=>(f δ).b fun y=>(M.o (g x y)).b fun d=>M.p (.nx (δ.set i (some d)))
end
theorem Reps.set{ρ:Rho}{K:PySem.W.Frag}{H:Hp}{d:D}{v:V}(hr:Rep ρ K H d v):∀ {ds:List D} {vs:List V} (j:Nat),Reps ρ K H ds vs→Reps ρ K H (ds.set j d) (vs.set j v)
 | [],_,j,h=>by rw[reps_nil.mp h];exact Reps.nil
 | e::ds,_,0,h=>by
  obtain⟨u,r,rfl,q,t⟩:=reps_cons.mp h
  exact Reps.cons hr t
 | e::ds,_,j+1,h=>by
  obtain⟨u,r,rfl,q,t⟩:=reps_cons.mp h
  exact Reps.cons q (Reps.set hr j t)
section
variable {X:Cx}{O O' B:List Nat}{E:XK}{a b c e o:Expr}{es:List Expr}{fa fb fc fo fe:DSt→M D}{fl:DSt→M (List D)}{pos:Pos}
noncomputable def jif(i:Nat)(fi fv:DSt→M D):DSt→M Out:=fun δ=>(fv δ).b fun d=>(fi δ).b fun k=>match (δ[i]?).join,k with
 | some (.lst ds),.int k=>match ixN ds.length k with
  | some j=>M.p (.nx (δ.set i (some (.lst (ds.set j d)))))
  | none=>none
 | _,_=>none
theorem jmt{i:Nat}{x:Str}{ix:Expr}{p1 p2:Pos}(ho:O.contains i=true)(hix:DE X O E ix fb)(he:DE X O E e fa)(hi:autoParam (X.N[i]? = some x) zau2._auto_1)(hv:autoParam (Vis X.env.scope x) zau5._auto_1)
  (hd:autoParam ((x == ("__debug__":Str))=false) zau1._auto_1) (hcd:autoParam ((x == ("__classdict__":Str))=false) zau1._auto_1)
  (ha:∀ v,assign (.Subscript (.Name x p1) ix p2) X.env v=(do
   let ov ← holding [v] (eval (.Name x p1) X.env)
   let iv ← holding [v,ov] (eval ix X.env)
   standAt p2
   holding [v,ov,iv] (setItem ov iv v)
   release [v,ov,iv] []):=by intro _;rfl)
  (hs:autoParam (swapsWithSole [.Subscript (.Name x p1) ix p2] e pos.line X.env=pure false) zau2._auto_1) (hw:autoParam (swappedStores [.Subscript (.Name x p1) ix p2] e X.env=pure none) zau2._auto_1)
  (h1:autoParam ((assignEach [.Subscript (.Name x p1) ix p2] X.env).map (·.2)=[assign (.Subscript (.Name x p1) ix p2) X.env]) zau2._auto_1):DS X O O B E (.Assign [.Subscript (.Name x p1) ix p2] e pos) (jif i fb fa):=by
 rintro pins s σ H Dn I ⟨ρ,H₀,F,δ,r,R,hg,k⟩
 have ho':i∈O:=List.contains_iff_mem.mp ho
 refine juo he (jum (jm9 hi hv hd hcd) hix jjr ha) hs hw h1 pins s σ H Dn I ?_
 rcases M.b_inv hg with ⟨d,e1,hg⟩|⟨y,e1,rfl⟩
 ·refine⟨ρ,H₀,F,δ,.ok d,R,e1,fun v H1 s1 r1=>?_⟩
  obtain⟨l,xs0,ds0,q1,q2,q3,q4,q5⟩:=(R.mono s1).own i ho'
  refine⟨.ref l,q2,?_⟩
  rcases M.b_inv hg with ⟨kk,e2,hg⟩|⟨y,e2,rfl⟩
  ·refine⟨ρ,H₀,F,δ,.ok kk,R.mono s1,e2,fun w H2 s2 r2=>?_⟩
   have R2:=R.mono (s1.trans s2)
   obtain⟨l',xs,ds,p1,p2,p3,p4,p5⟩:=R2.own i ho'
   rw[q2] at p2;cases p2
   rw[q1] at p1;cases p1
   have hj:(δ[i]?).join=some (.lst ds0):=by rw[q1];rfl
   rw[hj] at hg
   cases kk with
   | int n =>
    dsimp only at hg
    cases hjx:ixN ds0.length n with
    | none=>rw[hjx] at hg;cases hg
    | some j =>
     rw[hjx] at hg
     cases hg
     refine⟨l,xs,n,j,rfl,rep_int.mp r2,p3,by rw[p5.length];exact hjx,?_⟩
     refine k σ _ ?_ (R2.write ho' q2 (p5.set (r1.mono (jaf s2)) j))
     rw[jcz (fob_t.mpr (.inr ⟨i,ho',q2⟩))]
     exact jaf (s1.trans s2)
   | _=>cases hg
  ·exact⟨ρ,H₀,F,δ,.error y,R.mono s1,e2,k⟩
 ·exact⟨ρ,H₀,F,δ,.error y,R,e1,k⟩
noncomputable def gAsg(h:D→DSt→Option DSt)(f:DSt→M D):DSt→M Out:=fun δ=>(f δ).b fun d=>match h d δ with
 | some δ'=>M.p (.nx δ')
 | none=>none
noncomputable def jBs(i j l:Nat):D→DSt→Option DSt:=fun d δ=>match d with
 | .tup [x,y,z]=>some (((δ.set i (some x)).set j (some y)).set l (some z))
 | _=>none
noncomputable def jBv:List D→Option D
 | [.int i]=>some (.int i)
 | [.bl k]=>some (.int (if k then 1 else 0))
 | [.str x]=>if x.length≤640 then (PySem.intText? x).map .int else none
 | _=>none
end
end DL
namespace L2
open PySem PySem.Spec PyProof.Rows
section
variable {X:Cx}{tg:Expr}
end
end L2
namespace DL
open PySem PySem.Spec L2
section
variable {X:Cx}{O:List Nat}{E:XK}{a b tg iter e o:Expr}{es:List Expr}{fa fo fe:DSt→M D}{fl:DSt→M (List D)}{pos p:Pos}
noncomputable def blsD:List D→Option (List Bool)
 | []=>some []
 | .bl b::ds=>(blsD ds).map (b::·)
 | _::_=>none
theorem jot:∀ {ds:List D} {ns:List Bool},blsD ds=some ns→ds=ns.map .bl
 | [],_,h=>by cases h;rfl
 | .bl i::ds,ns,h=>by
  unfold blsD at h
  cases e:blsD ds with
  | none=>rw[e] at h;cases h
  | some ms=>rw[e] at h;cases h;rw[jot e];rfl
 | .non::_,_,h=>by cases h
 | .int _::_,_,h=>by cases h
 | .str _::_,_,h=>by cases h
 | .ty _::_,_,h=>by cases h
 | .obj _::_,_,h=>by cases h
 | .tup _::_,_,h=>by cases h
 | .lst _::_,_,h=>by cases h
theorem reps_bls{ρ:Rho}{K:PySem.W.Frag}{H:Hp}:∀ {ns:List Bool} {vs:List V},Reps ρ K H (ns.map .bl) vs↔vs=ns.map V.bl
 | [],vs=>reps_nil
 | n::ns,vs=>by
  rw[List.map_cons,reps_cons]
  constructor
  ·rintro⟨v,r,rfl,h1,h2⟩
   rw[rep_bl.mp h1,reps_bls.mp h2];rfl
  ·rintro rfl
   exact⟨_,_,rfl,rep_bl.mpr rfl,reps_bls.mpr rfl⟩
noncomputable def kAll:List D→Option D
 | [.lst ds]=>(blsD ds).map fun ns=>.bl (ns.all id)
 | _=>none
theorem jop(ns:List Bool):(List.range ns.length).all (fun i=>ns.getD i true)=ns.all id:=by
 induction ns with
 | nil=>rfl
 | cons n ns ih =>
  rw[List.length_cons,List.range_succ_eq_map,List.all_cons,List.all_map,List.all_cons]
  congr 1
theorem joy(hc:X.calm=true):CallR X (.builtin "all") (fun xs H Q=>∃ p,∃ ns:List Bool,xs=[.ref p]∧SqL X.K H p (ns.map V.bl)∧Q (.bl (ns.all id)) H):=by
 intro pins s σ H xs us Q I r h
 obtain⟨p,ns,rfl,hq,q⟩:=h
 obtain⟨u,rfl,rx⟩:=r.one
 cases rx
 obtain⟨its,rv,src,hz⟩:=I.list hq
 have hl:=rv.length
 rw[List.length_map] at hl
 have hh:X.A.in1.handled=none:=I.ok.hd hc
 have src':s.heap.IsList p its.toArray:=src.isList
 have hp:p<s.heap.objs.size:=by obtain⟨o,e,_⟩:=src';exact Heap.lt_size e
 refine call_all_walk ?_
 refine wpAny_pyIter_list src' ?_
 refine⟨_,_,_,_,_,_,(fun i=>ns.getD i true),rfl,Walks.list hh s.heap.objs.size p (Nat.ne_of_lt hp) its.toArray,⟨⟨_,Heap.get?_push_size _ rfl,rfl,rfl⟩,src'.at fun o e=>Heap.get?_push_of_some _ e⟩,fun i v s' Q' E' hP hQ=>?_,fun h' tk kp=>?_⟩
 ·have e:its.toArray[i]? = some v:=hP
  have hi:i<ns.length:=by rw[hl];have:=(Array.getElem?_eq_some_iff.mp e).1;simpa using this
  obtain⟨v',e1,r1⟩:=rv.get (i:=i) (x:=.bl ns[i]) (by rw[List.getElem?_map,List.getElem?_eq_getElem hi];rfl)
  have:v=v':=by
   have e':its[i]? = some v:=by simpa using e
   rw[e'] at e1;exact Option.some.inj e1
  subst this
  have r1':v=.bool ns[i]:=r1
  subst r1'
  refine wpAny_truthy_bool ?_
  dsimp only at hQ
  rw[List.getD_eq_getElem?_getD,List.getElem?_eq_getElem hi] at hQ
  exact hQ
 ·refine⟨.bl (ns.all id),H,I.kept fun b o e=>kp b o ?_ (Heap.get?_push_of_some _ e),?_,q⟩
  ·intro z
   have:b=s.heap.objs.size:=by simpa using z
   rw[this] at e
   exact absurd (Heap.lt_size e) (Nat.lt_irrefl _)
  ·have:its.toArray.size=ns.length:=by rw[List.size_toArray];omega
   rw[this,jop]
   rfl
theorem ju8:CaD X.K kAll (fun xs H Q=>∃ p,∃ ns:List Bool,xs=[.ref p]∧SqL X.K H p (ns.map V.bl)∧Q (.bl (ns.all id)) H):=by
 intro xs d hd ρ H G us Q hG ru k
 unfold kAll at hd
 split at hd
 ·rename_i ds
  cases e:blsD ds with
  | none=>rw[e] at hd;cases hd
  | some ns =>
   rw[e] at hd
   cases hd
   obtain⟨v,rfl,q⟩:=jhu ru
   obtain⟨l,ys,rfl,q1,q2⟩:=rep_lst.mp q
   rw[jot e] at q2
   rw[reps_bls.mp q2] at q1
   exact⟨l,ns,rfl,jc1 jan q1,k _ H (Same.refl H) (rep_bl.mpr rfl)⟩
 ·cases hd
end
end DL
namespace L2
open PySem PySem.Spec PyProof.Rows
theorem jge:fillsNumberSlot (.type "tuple") "mul"=pure false :=
 PySem.fillsNumberSlot_seq (id:="tuple.__mul__") (r:=some (.builtin "tuple.__rmul__")) PySem.F.slot_tuple_mul.lookup (by decide +kernel) PySem.F.slot_tuple_rmul.lookup (by decide +kernel)
theorem jkz:seqRepeat? (.type "tuple")=pure (some (.builtin "tuple.__mul__")):=by
 unfold seqRepeat?
 rw[PySem.seqSlot_of (T:="tuple") (name:="__mul__") (id:="tuple.__mul__") PySem.F.slot_tuple_mul.lookup (by decide +kernel),PySem.seqSlot_of (T:="tuple") (name:="__rmul__") (id:="tuple.__rmul__") PySem.F.slot_tuple_rmul.lookup (by decide +kernel)]
 rfl
theorem jh7(a:Int)(t:Tok)(l:Addr)(items:Array Value)(n:Nat)(dd:Option Addr)(sl:Array (Option Value)) :
  Meets (Builtin.«int.__rmul__» ⟨[.int a t,.ref l],[]⟩) (fun _ R s=>s.heap.get? l=some { cls:=.type "tuple",dict:=dd,data:=.seq items n,slots:=sl }∧R (.ok (.ret Value.notImplemented)) s) :=
 .of_wp fun prog w A R s h=>by obtain⟨hp,g,d,tk,os⟩:=s;obtain⟨hl,h⟩:=h;wp_walk;exact⟨_,rfl,h⟩
theorem joh(l:Addr)(items:Array Value)(n:Nat)(u:Tok)(dd:Option Addr)(sl:Array (Option Value))(hne:items.isEmpty=false) :
  Meets (Builtin.«tuple.__mul__» ⟨[.ref l,.int 1 u],[]⟩) (fun _ R s=>s.heap.get? l=some { cls:=.type "tuple",dict:=dd,data:=.seq items n,slots:=sl }∧R (.ok (.ret (.ref l))) s) :=
 .of_wp fun prog w A R s h=>by
  obtain⟨hp,g,d,tk,os⟩:=s;obtain⟨hl,h⟩:=h
  have f1:=AutoSeq1.idx_int
  wp_walk
  exact⟨_,rfl,h⟩
theorem joi(l:Addr)(items:Array Value)(n:Nat)(k:Int)(u:Tok)(dd:Option Addr)(sl:Array (Option Value))(hne:items.isEmpty=false)(h2:2≤k)(h3:k≤1000)(hsz:items.size*k.toNat≤100000) :
  Meets (Builtin.«tuple.__mul__» ⟨[.ref l,.int k u],[]⟩) (fun _ R s=>s.heap.get? l=some { cls:=.type "tuple",dict:=dd,data:=.seq items n,slots:=sl }∧R (.ok (.ret (.ref s.heap.objs.size))) { s with heap:=s.heap.push { cls:=.type "tuple",data:=.seq (List.foldl (fun x1 x2=>x1++x2) #[] (List.replicate k.toNat items)) } }) :=
 .of_wp fun prog w A R s h=>by
  obtain⟨hp,g,d,tk,os⟩:=s;obtain⟨hl,h⟩:=h
  have f1:=AutoSeq1.idx_int
  have c1:(decide (k < -(2 ^ 63)) || decide (k ≥ 2 ^ 63))=false:=by simp;omega
  have c2:(items.isEmpty || k == 1)=false:=by rw[hne];simp;omega
  have c3:(decide (k≤0) || items.isEmpty)=false:=by rw[hne];simp;omega
  obtain⟨m,rfl⟩:=Int.eq_ofNat_of_zero_le (show 0≤k by omega)
  have hs:(items.size:Int)*(m:Int)=((items.size*m:Nat):Int):=by push_cast;rfl
  have hsz':items.size*m≤100000:=by simpa using hsz
  have c4:¬ ((items.size:Int)*(m:Int) > (2 ^ 63-1) / 8):=by rw[hs];omega
  have c5:Builtin.Tuple.tupleTooMany ((items.size:Int)*(m:Int))=false:=by
   rw[hs]
   unfold Builtin.Tuple.tupleTooMany
   simp[sizeLine]
   omega
  wp_walk
  refine wpAny_ite_false (decide_eq_false (by rw[c1];decide)) ?_
  wp_walk
  refine wpAny_ite_false (decide_eq_false (by rw[c2];decide)) ?_
  wp_walk
  refine wpAny_ite_false (decide_eq_false (by rw[c3];decide)) ?_
  try dsimp only
  refine wpAny_ite_false (decide_eq_false c4) ?_
  try dsimp only
  refine wpAny_ite_false (decide_eq_false (by rw[c5];decide)) ?_
  try dsimp only
  refine wpAny_bind ?_
  unfold Builtin.Tuple.tupleExact
  refine wpAny_newObj_type ?_ ?_
  ·exact wpAny_pure ⟨_,rfl,h⟩
  ·show (List.foldl (fun x1 x2=>x1++x2) #[] (List.replicate ((m:Nat):Int).toNat items)).size≤sizeLine
   rw[AutoListH.size_joined]
   have:100000≤sizeLine:=by decide
   rw[Nat.mul_comm] at hsz'
   simp
   omega
end L2
namespace DL
open PySem PySem.Spec L2
noncomputable def jz7(K:PySem.W.Frag):R2:=fun x y H Q=>∃ l k xs,x=.ref l∧y=.int k∧SqT K H l xs∧xs≠[]∧1≤k∧k≤1000∧xs.length*k.toNat≤100000∧(k=1→Q (.ref l) H)∧(k≠1→∀ p,H p=none→Q (.ref p) (upd H p (.tup (List.replicate k.toNat xs).flatten)))
section
variable {X:Cx}{O O' B:List Nat}{E:XK}{a b c e:Expr}{es:List Expr}{fa fb fc:DSt→M D}{fl:DSt→M (List D)}{pos:Pos}
theorem jwj:OpR X (binaryOp .Mult) (jz7 X.K):=by
 intro pins s σ H x y v u Q I rx ry h
 obtain⟨l,k,xs,rfl,rfl,hH,hne,h1,h2,hz,q1,q2⟩:=h
 cases rx
 obtain⟨t,rfl⟩:=ry
 obtain⟨its,r,⟨⟨cls,dd,data,sl⟩,e,hc,n,hd⟩,_⟩:=I.tuple hH
 simp only at hc hd
 subst hc hd
 have l1:=r.length
 have hne':its.toArray.isEmpty=false:=by
  cases its with
  | nil=>exact absurd (List.length_eq_zero_iff.mp l1) hne
  | cons _ _=>rfl
 have hlen:its.toArray.size*k.toNat≤100000:=by rw[List.size_toArray,← l1];exact hz
 have hnew:List.foldl (fun x1 x2=>x1++x2) #[] (List.replicate k.toNat its.toArray)=(List.replicate k.toNat its).flatten.toArray:=by
  have:=jg7 its k.toNat []
  rw[List.nil_append] at this
  exact this
 refine wpAny_binaryOp_repeat_ref (T:="tuple") (U:="int") (by decide) ⟨_,e,rfl⟩ (fun s'=>typeIs_int s' k t) jge F.fills_int_mul F.slot_int_rmul jkz F.slot_int_index.lookup
  (call_meets F.slot_int_rmul (typeIs_int s k t) F.entry_int_rmul (F.args_int_rmul_2 _ _) (jh7 k t l its.toArray n dd sl)
   ⟨e,rfl,⟨_,e,rfl⟩,?_⟩)
 by_cases hk:k=1
 ·subst hk
  exact call_meets F.slot_tuple_mul ⟨_,e,rfl⟩ F.entry_tuple_mul (F.args_tuple_mul_2 _ _) (joh l its.toArray n t dd sl hne') ⟨e,.ref l,H,I,rfl,q1 rfl⟩
 ·refine call_meets F.slot_tuple_mul ⟨_,e,rfl⟩ F.entry_tuple_mul (F.args_tuple_mul_2 _ _) (joi l its.toArray n k t dd sl hne' (by omega) h2 hlen) ⟨e,?_⟩
  rw[hnew]
  refine⟨.ref s.heap.objs.size,_,I.laid (t':=s.toks) (o:=.tup (List.replicate k.toNat xs).flatten) (fun b ob q=>Heap.get?_push_of_some _ q) (Nat.le_refl _) ?_,rfl,q2 hk _ (I.hok.fresh (Nat.le_refl _))⟩
  refine⟨?_,_,r.rep k.toNat,PyProof.Rows.IsTup.new _ _⟩
  rw[jpz,Nat.mul_comm]
  have:100000≤sizeLine:=by decide
  omega
noncomputable def jg8:D→D→Option D
 | .tup xs,.int k=>if xs≠[]∧1≤k∧k≤1000∧xs.length*k.toNat≤100000 then some (.tup (List.replicate k.toNat xs).flatten) else none
 | x,y=>gMul x y
noncomputable def jz6(K:PySem.W.Frag):R2:=fun x y H Q=>(rI (fun i j=>(jez i&&jez j)=true) (fun i j=>.int (i*j)) x y H Q∨∃ z n,x=.str z∧y=.int n∧(z.length≤4096∧-4096≤n∧n≤4096)∧Q (.str (Txt.mul z n)) H)∨jz7 K x y H Q
theorem jjk:OpR X (binaryOp .Mult) (jz6 X.K):=op_mulD.or jwj
theorem jgk:OpD X.K jg8 (jz6 X.K):=by
 intro x y d hd ρ H G u v Q hG ru rv k
 unfold jg8 at hd
 split at hd
 ·split at hd
  ·rename_i hz
   cases hd
   obtain⟨l,xs,rfl,q1,q2⟩:=rep_tup.mp ru
   have n1:xs≠[]:=fun z=>by have:=q2.length;rw[z] at this;exact hz.1 (List.length_eq_zero_iff.mp this.symm)
   refine .inr ⟨l,_,xs,rfl,rep_int.mp rv,jcy jan q1,n1,hz.2.1,hz.2.2.1,by rw[q2.length];exact hz.2.2.2,fun e=>?_,fun _ p hp=>k _ _ (jal hp) (jbc hp (hG p hp) (q2.rep _))⟩
   subst e
   refine k _ H (Same.refl H) ?_
   simpa using ru
  ·cases hd
 ·exact .inl (jwk (X:=X) x y d hd ρ H G u v Q hG ru rv k)
end
inductive SO where
 | ins (c:Str) (fs:List (Str×D))|lst (ds:List D)|tab (x:Str) (l c:Nat) (q:Str)|dct (kvs:List (List Int×D))
noncomputable abbrev Sto:=List SO
noncomputable abbrev MS(α:Type):=Sto→Option (Except XD α×Sto)
noncomputable def MS.b{α β:Type}(m:MS α)(f:α→MS β):MS β:=fun Ω=>match m Ω with
 | none=>none
 | some (.error x,Ω')=>some (.error x,Ω')
 | some (.ok a,Ω')=>f a Ω'
noncomputable def MS.p{α:Type}(a:α):MS α:=fun Ω=>some (.ok a,Ω)
noncomputable def MS.l{α:Type}(m:M α):MS α:=fun Ω=>m.map fun r=>(r,Ω)
noncomputable def MS.o{α:Type}(m:Option α):MS α:=fun Ω=>m.map fun r=>(.ok r,Ω)
inductive MS.BInv{α β:Type}(m:MS α)(f:α→MS β)(Ω Ω':Sto)(r:Except XD β):Prop
 | ok (a:α) (Ω1:Sto) (h1:m Ω=some (.ok a,Ω1)) (h2:f a Ω1=some (r,Ω'))
 | err (x:XD) (h1:m Ω=some (.error x,Ω')) (h2:r=.error x)
theorem MS.b_inv{α β:Type}{m:MS α}{f:α→MS β}{Ω Ω':Sto}{r:Except XD β}(h:m.b f Ω=some (r,Ω')):MS.BInv m f Ω Ω' r:=by
 unfold MS.b at h
 cases e:m Ω with
 | none=>rw[e] at h;cases h
 | some p =>
  rw[e] at h
  obtain⟨q,Ω1⟩:=p
  cases q with
  | error x=>cases h;exact .err x e rfl
  | ok a=>exact .ok a Ω1 e h
theorem MS.l_inv{α:Type}{m:M α}{Ω Ω':Sto}{r:Except XD α}(h:MS.l m Ω=some (r,Ω')):m=some r∧Ω'=Ω:=by
 unfold MS.l at h
 cases e:m with
 | none=>rw[e] at h;cases h
 | some p=>rw[e] at h;cases h;exact⟨rfl,rfl⟩
theorem MS.o_inv{α:Type}{m:Option α}{Ω Ω':Sto}{r:Except XD α}(h:MS.o m Ω=some (r,Ω')):∃ a,m=some a∧r=.ok a∧Ω'=Ω:=by
 unfold MS.o at h
 cases e:m with
 | none=>rw[e] at h;cases h
 | some p=>rw[e] at h;cases h;exact⟨p,rfl,rfl,rfl⟩
@[simp] theorem MS.b_p{α β:Type}(a:α)(f:α→MS β):(MS.p a).b f=f a:=rfl
noncomputable def RLe(ρ ρ':Rho):Prop:=∀ i a,ρ i=some a→ρ' i=some a
theorem RLe.refl(ρ:Rho):RLe ρ ρ:=fun _ _ h=>h
theorem RLe.trans{ρ ρ' ρ'':Rho}(a:RLe ρ ρ')(b:RLe ρ' ρ''):RLe ρ ρ'':=fun i x h=>b i x (a i x h)
section
variable {ρ ρ':Rho}{K:PySem.W.Frag}{H H':Hp}
mutual
theorem Rep.rho(e:RLe ρ ρ'):∀ {d:D} {v:V},Rep ρ K H d v→Rep ρ' K H d v
 | .non,_,h=>by unfold Rep at h ⊢;exact h
 | .bl _,_,h=>by unfold Rep at h ⊢;exact h
 | .int _,_,h=>by unfold Rep at h ⊢;exact h
 | .str _,_,h=>by unfold Rep at h ⊢;exact h
 | .ty _,_,h=>by unfold Rep at h ⊢;exact h
 | .obj _,_,h=>by
  unfold Rep at h ⊢
  obtain⟨a,q1,q2⟩:=h
  exact⟨a,e _ _ q1,q2⟩
 | .tup _,_,h=>by
  unfold Rep at h ⊢
  obtain⟨a,xs,q1,q2,q3⟩:=h
  exact⟨a,xs,q1,q2,Reps.rho e q3⟩
 | .lst _,_,h=>by
  unfold Rep at h ⊢
  obtain⟨a,xs,q1,q2,q3⟩:=h
  exact⟨a,xs,q1,q2,Reps.rho e q3⟩
theorem Reps.rho(e:RLe ρ ρ'):∀ {ds:List D} {vs:List V},Reps ρ K H ds vs→Reps ρ' K H ds vs
 | [],_,h=>by unfold Reps at h ⊢;exact h
 | _::_,_,h=>by
  unfold Reps at h ⊢
  obtain⟨v,vs,q1,q2,q3⟩:=h
  exact⟨v,vs,q1,Rep.rho e q2,Reps.rho e q3⟩
end
noncomputable def putD(f:Str)(d:D):List (Str×D)→List (Str×D)
 | []=>[(f,d)]
 | (g,x)::r=>if g=f then (g,d)::r else (g,x)::putD f d r
noncomputable def Flds(ρ:Rho)(K:PySem.W.Frag)(H:Hp):List (Str×D)→List (Str×V)→Prop
 | [],vs=>vs=[]
 | (f,d)::fs,vs=>∃ v r,vs=(f,v)::r∧Rep ρ K H d v∧Flds ρ K H fs r
theorem Flds.mono(e:RLe ρ ρ')(s:Same H H'):∀ {fs:List (Str×D)} {vs:List (Str×V)},Flds ρ K H fs vs→Flds ρ' K H' fs vs
 | [],_,h=>h
 | (f,d)::fs,_,⟨v,r,q1,q2,q3⟩=>⟨v,r,q1,(q2.rho e).mono s,Flds.mono e s q3⟩
theorem Flds.length:∀ {fs:List (Str×D)} {vs:List (Str×V)},Flds ρ K H fs vs→vs.length=fs.length
 | [],_,h=>by cases h;rfl
 | (f,d)::fs,_,⟨v,r,q1,q2,q3⟩=>by subst q1;simp[Flds.length q3]
theorem Flds.get:∀ {fs:List (Str×D)} {vs:List (Str×V)} {f:Str} {d:D},Flds ρ K H fs vs→fs.lookup f=some d→∃ v,vs.lookup f=some v∧Rep ρ K H d v
 | [],_,_,_,_,e=>by cases e
 | (g,x)::fs,_,f,d,⟨v,r,q1,q2,q3⟩,e=>by
  subst q1
  simp only[List.lookup_cons] at e ⊢
  cases h:f == g with
  | true=>rw[h] at e;cases e;exact⟨v,rfl,q2⟩
  | false=>rw[h] at e;exact Flds.get q3 e
theorem Flds.none:∀ {fs:List (Str×D)} {vs:List (Str×V)} {f:Str},Flds ρ K H fs vs→fs.lookup f=Option.none→vs.lookup f=Option.none
 | [],_,_,h,_=>by cases h;rfl
 | (g,x)::fs,_,f,⟨v,r,q1,q2,q3⟩,e=>by
  subst q1
  simp only[List.lookup_cons] at e ⊢
  cases h:f == g with
  | true=>rw[h] at e;cases e
  | false=>rw[h] at e;exact Flds.none q3 e
theorem Flds.put{f:Str}{d:D}{v:V}(hr:Rep ρ K H d v):∀ {fs:List (Str×D)} {vs:List (Str×V)},Flds ρ K H fs vs→Flds ρ K H (putD f d fs) (putF f v vs)
 | [],_,h=>by cases h;exact⟨v,[],rfl,hr,rfl⟩
 | (g,x)::fs,_,⟨u,r,q1,q2,q3⟩=>by
  subst q1
  unfold putD putF
  by_cases h:g=f
  ·rw[if_pos h,if_pos h];exact⟨v,r,rfl,hr,q3⟩
  ·rw[if_neg h,if_neg h];exact⟨u,_,rfl,q2,Flds.put hr q3⟩
end
inductive InsOk(ρ:Rho)(S:Addr→Bool)(K:PySem.W.Frag)(mg:Str→Option Value)(H Hv:Hp)(a:Addr)(c:Str)(fs:List (Str×D)):Prop
 | mk (C dx:Addr) (vfs:List (Str×V)) (h1:mg c=some (.ref C)) (h2:H a=some (.ins C dx vfs)) (h3:H dx=some (.own a)) (h4:S dx=true) (h5:Flds ρ K Hv fs vfs)
inductive TabOf(K:PySem.W.Frag)(mg:Str→Option Value)(x:Str)(a:Addr):Prop
 | mk (f c bm:Addr) (oc:Value) (od:Option Addr) (fd:FuncData) (osl:Array (Option Value)) (ob:Obj) (h1:mg x=some (.ref f)) (h2:K.lookup f=some ⟨oc,od,.func fd,osl⟩) (h3:fd.code=.ref c) (h4:PySem.W.codeHdIn K c a=true)
   (h5:mg "__builtins__"=some (.ref bm)) (h6:bm≠builtinsNs) (h7:K.lookup bm=some ob) (h8:ob.cls=.type "module") (h9:ob.dict=some builtinsNs) (h10:ob.data=.plain)
inductive TabG(Hv:Hp)(l c:Nat)(q:Str)(ps:Array Value):Prop
 | nil (h:ps=#[])
 | one (c':Addr) (o:Obj) (vs:Array Value) (t:Tok) (h:ps=#[rawInt l,rawInt c,.ref c']) (h1:Hv c'=some (.frz o (.own 0))) (h2:o.data=.fields vs) (h3:vs[1]? = some (.str q t))
theorem TabG.mono{Hv Hv':Hp}{l c:Nat}{q:Str}{ps:Array Value}(s:Same Hv Hv'):TabG Hv l c q ps→TabG Hv' l c q ps
 | .nil h=>.nil h
 | .one c' o vs t h h1 h2 h3=>.one c' o vs t h (s _ _ h1) h2 h3
inductive TabOk(K:PySem.W.Frag)(mg:Str→Option Value)(H Hv:Hp)(a:Addr)(x:Str)(l c:Nat)(q:Str):Prop
 | mk (ps:Array Value) (h1:H a=some (.tbl ps)) (h2:TabOf K mg x a) (h3:TabG Hv l c q ps)
noncomputable def SOk(ρ:Rho)(S:Addr→Bool)(K:PySem.W.Frag)(mg:Str→Option Value)(H Hv:Hp)(a:Addr):SO→Prop
 | .ins c fs=>InsOk ρ S K mg H Hv a c fs
 | .lst ds=>∃ xs,H a=some (.lst xs)∧Reps ρ K Hv ds xs
 | .tab x l c q=>TabOk K mg H Hv a x l c q
 | .dct kvs=>∃ vk:List (List Key×V),H a=some (.dT vk)∧vk.map (·.1)=kvs.map (fun p=>p.1.map Sum.inl)∧Reps ρ K Hv (kvs.map (·.2)) (vk.map (·.2))
inductive AtOk(ρ:Rho)(S:Addr→Bool)(K:PySem.W.Frag)(mg:Str→Option Value)(H Hv:Hp)(i:Nat)(so:SO):Prop
 | mk (a:Addr) (h1:ρ i=some a) (h2:S a=true) (h3:SOk ρ S K mg H Hv a so)
noncomputable def TV(H Hv:Hp):Prop:=∀ b xs,H b=some (.tup xs)→Hv b=some (.tup xs)
theorem jf8{H Hv:Hp}{a:Addr}{o:HO}(t:TV H Hv)(ho:∀ xs,o≠.tup xs):TV (upd H a o) Hv:=fun b xs q=>by
 by_cases hb:b=a
 ·subst hb
  rw[jag] at q
  cases q
  exact absurd rfl (ho xs)
 ·rw[jaj hb] at q
  exact t b xs q
theorem jrk{H Hv Hv':Hp}(t:TV H Hv)(v:Same Hv Hv'):TV H Hv':=fun b xs q=>v b _ (t b xs q)
theorem jxj{H H':Hp}{F:Addr→Bool}(t:TV H (hid H F))(fr:∀ b,H b=none→F b=false)(e:Same H H'):TV H' (hid H' F):=fun b xs q=>by
 cases z:H b with
 | none=>exact hid_some.mpr ⟨fr b z,q⟩
 | some o =>
  have:=e b o z
  rw[q] at this
  cases this
  exact jaf e b _ (t b xs z)
structure StoOk(ρ:Rho)(S:Addr→Bool)(K:PySem.W.Frag)(mg:Str→Option Value)(H Hv:Hp)(Ω:Sto):Prop where
 ats:∀ (i:Nat) so,Ω[i]? = some so→AtOk ρ S K mg H Hv i so
 inj:∀ i j a,ρ i=some a→ρ j=some a→i=j
 top:∀ i,Ω.length≤i→ρ i=none
 fin:∀ b,S b=true→H b≠none
 tv:TV H Hv
noncomputable abbrev nof:Addr→Bool:=fun _=>false
noncomputable def un(F S:Addr→Bool):Addr→Bool:=fun b=>F b || S b
theorem un_t{F S:Addr→Bool}{b:Addr}:un F S b=true↔F b=true∨S b=true:=by unfold un;rw[Bool.or_eq_true]
theorem un_f{F S:Addr→Bool}{b:Addr}:un F S b=false↔F b=false∧S b=false:=by unfold un;rw[Bool.or_eq_false_iff]
section
variable {ρ ρ':Rho}{S S':Addr→Bool}{K:PySem.W.Frag}{mg:Str→Option Value}{H H' Hv Hv':Hp}{Ω Ω':Sto}
theorem SOk.mono{a:Addr}{so:SO}(hs:S a=true)(e:∀ b,S b=true→H' b=H b)(v:Same Hv Hv')(h:SOk ρ S K mg H Hv a so):SOk ρ S K mg H' Hv' a so:=by
 cases so with
 | ins c fs =>
  obtain⟨C,dx,vfs,q1,q2,q3,q4,q5⟩:=h
  exact⟨C,dx,vfs,q1,by rw[e a hs];exact q2,by rw[e dx q4];exact q3,q4,q5.mono (RLe.refl _) v⟩
 | lst ds =>
  obtain⟨xs,q1,q2⟩:=h
  exact⟨xs,by rw[e a hs];exact q1,q2.mono v⟩
 | tab x l c q =>
  obtain⟨ps,q1,q2,q3⟩:=h
  exact⟨ps,by rw[e a hs];exact q1,q2,q3.mono v⟩
 | dct kvs =>
  obtain⟨vk,q1,q2,q3⟩:=h
  exact⟨vk,by rw[e a hs];exact q1,q2,q3.mono v⟩
theorem StoOk.mono(h:StoOk ρ S K mg H Hv Ω)(e:∀ b,S b=true→H' b=H b)(v:Same Hv Hv')(t:TV H' Hv'):StoOk ρ S K mg H' Hv' Ω :=
 ⟨fun i so hi=>let ⟨a,q1,q2,q3⟩:=h.ats i so hi;⟨a,q1,q2,q3.mono q2 e v⟩,h.inj,h.top,fun b hb=>by rw[e b hb];exact h.fin b hb,t⟩
end
structure RM(ρ₀:Rho)(S₀:Addr→Bool)(H₀:Hp)(F:Addr→Bool)(K:PySem.W.Frag)(mg:Str→Option Value)(O:List Nat)(ρ:Rho)(S:Addr→Bool)(H:Hp)(σ:St)(δ:DSt)(Ω:Sto):Prop where
 rs:RS ρ K (hid H (fob nof σ O)) H (un F S) O σ δ
 rho:RLe ρ₀ ρ
 same:∀ b o,S₀ b=false→H₀ b=some o→H b=some o
 old:∀ b,S₀ b=true→S b=true
 new:∀ b,S b=true→S₀ b=true∨H₀ b=none
 own0:∀ i∈O,∀ a,σ[i]? = some (some (.ref a))→H₀ a=none
 ff:∀ b,F b=true→S b=false
 sto:StoOk ρ S K mg H (hid H (fob (un F S) σ O)) Ω
section
variable {ρ₀ ρ:Rho}{S₀ S F:Addr→Bool}{H₀ H1 H H':Hp}{K:PySem.W.Frag}{mg:Str→Option Value}{O O':List Nat}{σ σ':St}{δ δ':DSt}{Ω:Sto}
theorem RS.rebase(R:RS ρ K H1 H F O σ δ):RS ρ K (hid H (fob nof σ O)) H F O σ δ :=
 ⟨R.len,jan,R.fin,R.val,fun i hi=>by
  obtain⟨a,xs,ds,q1,q2,q3,q4,q5⟩:=R.own i hi
  refine⟨a,xs,ds,q1,q2,q3,⟨?_,q4.2⟩,q5⟩
  unfold hid
  rw[if_pos (fob_t.mpr (.inr ⟨i,hi,q2⟩))],R.nd⟩
theorem RM.at_store(R:RM ρ₀ S₀ H₀ F K mg O ρ S H σ δ Ω)(e:Same H H'):∀ b,S b=true→H' b=H b:=fun b hb=>by
 cases q:H b with
 | none=>exact absurd q (R.sto.fin b hb)
 | some o=>exact e b o q
theorem RM.mono(R:RM ρ₀ S₀ H₀ F K mg O ρ S H σ δ Ω)(e:Same H H'):RM ρ₀ S₀ H₀ F K mg O ρ S H' σ δ Ω :=
 ⟨(R.rs.mono e).rebase,R.rho,fun b o h1 h2=>e b o (R.same b o h1 h2),R.old,R.new,R.own0,R.ff,R.sto.mono (R.at_store e) (jaf e) (jxj R.sto.tv (fun _ h=>R.rs.fresh h) e)⟩
theorem RM.thaw(R:RM ρ₀ S₀ H₀ F K mg O ρ S H σ δ Ω)(h:∀ i∈O',i∈O):RM ρ₀ S₀ H₀ F K mg O' ρ S H σ δ Ω :=
 ⟨(R.rs.thaw h).rebase,R.rho,R.same,R.old,R.new,fun i hi=>R.own0 i (h i hi),R.ff,R.sto.mono (fun _ _=>rfl) (jcr (jpy h)) (jrk R.sto.tv (jcr (jpy h)))⟩
theorem RM.fresh(R:RM ρ₀ S₀ H₀ F K mg O ρ S H σ δ Ω){p:Addr}(h:H p=none):fob (un F S) σ O p=false:=R.rs.fresh h
theorem RM.fresh0(R:RM ρ₀ S₀ H₀ F K mg O ρ S H σ δ Ω){p:Addr}(h:H p=none):H₀ p=none∨S₀ p=true:=by
 cases e:S₀ p with
 | true=>exact .inr rfl
 | false =>
  cases e0:H₀ p with
  | none=>exact .inl rfl
  | some o=>rw[R.same p o e e0] at h;cases h
theorem RM.noS(R:RM ρ₀ S₀ H₀ F K mg O ρ S H σ δ Ω){p:Addr}(h:H p=none):S p=false:=by
 cases e:S p with
 | false=>rfl
 | true=>exact absurd h (R.sto.fin p e)
theorem RM.fresh00(R:RM ρ₀ S₀ H₀ F K mg O ρ S H σ δ Ω){p:Addr}(h:H p=none):H₀ p=none:=by
 rcases R.fresh0 h with q|q
 ·exact q
 ·have:=R.noS h
  rw[R.old p q] at this;cases this
theorem RM.set(R:RM ρ₀ S₀ H₀ F K mg O ρ S H σ δ Ω){i:Nat}{d:D}{v:V}(ho:i∉O)(hr:Rep ρ K (hid H (fob (un F S) σ O)) d v):RM ρ₀ S₀ H₀ F K mg O ρ S H (σ.set i (some v)) (δ.set i (some d)) Ω:=by
 refine⟨(R.rs.set ho hr).rebase,R.rho,R.same,R.old,R.new,fun j hj a q=>?_,R.ff,by rw[jck ho];exact R.sto⟩
 rw[List.getElem?_set_ne (by rintro rfl;exact ho hj)] at q
 exact R.own0 j hj a q
theorem RM.write(R:RM ρ₀ S₀ H₀ F K mg O ρ S H σ δ Ω){i:Nat}{a:Addr}{ds:List D}{xs:List V}(hi:i∈O)(ha:σ[i]? = some (some (.ref a)))(hr:Reps ρ K (hid H (fob (un F S) σ O)) ds xs) :
  RM ρ₀ S₀ H₀ F K mg O ρ S (upd H a (.lst xs)) σ (δ.set i (some (.lst ds))) Ω:=by
 obtain⟨a',ys,es,q1,q2,q3,q4,q5⟩:=R.rs.own i hi
 rw[ha] at q2;cases q2
 have hS:S a=false:=(un_f.mp q4.2).2
 have h0:=R.own0 i hi a ha
 have hh:hid (upd H a (.lst xs)) (fob (un F S) σ O)=hid H (fob (un F S) σ O):=jcz (fob_t.mpr (.inr ⟨i,hi,ha⟩))
 refine⟨(R.rs.write hi ha hr).rebase,R.rho,fun b o h1 h2=>?_,R.old,R.new,R.own0,R.ff,?_⟩
 ·rw[jaj (jas h2 h0)];exact R.same b o h1 h2
 ·rw[hh]
  refine R.sto.mono (fun b hb=>?_) (Same.refl _) (jf8 R.sto.tv fun _ z=>nomatch z)
  rw[jaj]
  rintro rfl
  rw[hS] at hb;cases hb
end
inductive tE(K:PySem.W.Frag)(mg:Str→Option Value)(O:List Nat)(f:DSt→MS D)(σ:St)(H:Hp)(Q:VK):Prop
 | mk (ρ₀:Rho) (S₀:Addr→Bool) (H₀:Hp) (F:Addr→Bool) (ρ:Rho) (S:Addr→Bool) (δ:DSt) (Ω:Sto) (R:RM ρ₀ S₀ H₀ F K mg O ρ S H σ δ Ω) (r:Except XD D) (Ω':Sto) (hf:f δ Ω=some (r,Ω')) (k:match (generalizing:=false) r with
  | .ok d=>∀ v ρ' S' H',RM ρ₀ S₀ H₀ F K mg O ρ' S' H' σ δ Ω'→RLe ρ ρ'→Same (hid H (fob (un F S) σ O)) (hid H' (fob (un F S') σ O))→Rep ρ' K (hid H' (fob (un F S') σ O)) d v→Q v H'
  | .error _=>True)
noncomputable def ME(X:Cx)(O:List Nat)(e:Expr)(f:DSt→MS D):Prop:=PE X e (tE X.K X.mg O f)
inductive tEB(K:PySem.W.Frag)(mg:Str→Option Value)(O:List Nat)(f:DSt→MS Bool)(σ:St)(H:Hp)(Q:Bool→Hp→Prop):Prop
 | mk (ρ₀:Rho) (S₀:Addr→Bool) (H₀:Hp) (F:Addr→Bool) (ρ:Rho) (S:Addr→Bool) (δ:DSt) (Ω:Sto) (R:RM ρ₀ S₀ H₀ F K mg O ρ S H σ δ Ω) (r:Except XD Bool) (Ω':Sto) (hf:f δ Ω=some (r,Ω')) (k:match (generalizing:=false) r with
  | .ok d=>∀ ρ' S' H',RM ρ₀ S₀ H₀ F K mg O ρ' S' H' σ δ Ω'→RLe ρ ρ'→Same (hid H (fob (un F S) σ O)) (hid H' (fob (un F S') σ O))→Q d H'
  | .error _=>True)
noncomputable def MT(X:Cx)(O:List Nat)(e:Expr)(f:DSt→MS Bool):Prop:=PT X e (tEB X.K X.mg O f)
noncomputable def MW(X:Cx)(O:List Nat)(e:Expr)(f:DSt→MS Bool):Prop:=PW X e (tEB X.K X.mg O f)
inductive tEL(K:PySem.W.Frag)(mg:Str→Option Value)(O:List Nat)(f:DSt→MS (List D))(σ:St)(H:Hp)(Q:List V→Hp→Prop):Prop
 | mk (ρ₀:Rho) (S₀:Addr→Bool) (H₀:Hp) (F:Addr→Bool) (ρ:Rho) (S:Addr→Bool) (δ:DSt) (Ω:Sto) (R:RM ρ₀ S₀ H₀ F K mg O ρ S H σ δ Ω) (r:Except XD (List D)) (Ω':Sto) (hf:f δ Ω=some (r,Ω')) (k:match (generalizing:=false) r with
  | .ok ds=>∀ vs ρ' S' H',RM ρ₀ S₀ H₀ F K mg O ρ' S' H' σ δ Ω'→RLe ρ ρ'→Same (hid H (fob (un F S) σ O)) (hid H' (fob (un F S') σ O))→Reps ρ' K (hid H' (fob (un F S') σ O)) ds vs→Q vs H'
  | .error _=>True)
noncomputable def MA(X:Cx)(O:List Nat)(es:List Expr)(f:DSt→MS (List D)):Prop:=PA X es (tEL X.K X.mg O f)
noncomputable def lF{α:Type}(f:DSt→M α):DSt→MS α:=fun δ=>MS.l (f δ)
noncomputable def jar(f:DSt→MS D)(g:DSt→MS (List D)):DSt→MS (List D):=fun δ=>(f δ).b fun x=>(g δ).b fun xs=>MS.p (x::xs)
noncomputable def m2(g:D→D→Option D)(fa fb:DSt→MS D):DSt→MS D:=fun δ=>(fa δ).b fun x=>(fb δ).b fun y=>MS.o (g x y)
noncomputable def m1(g:D→Option D)(fa:DSt→MS D):DSt→MS D:=fun δ=>(fa δ).b fun x=>MS.o (g x)
noncomputable def mL(k:List D→Option D)(g:DSt→MS (List D)):DSt→MS D:=fun δ=>(g δ).b fun xs=>MS.o (k xs)
noncomputable def mTru(fa:DSt→MS D):DSt→MS Bool:=fun δ=>(fa δ).b fun x=>MS.o (truD x)
noncomputable def mNot(ta:DSt→MS Bool):DSt→MS Bool:=fun δ=>(ta δ).b fun x=>MS.p !x
noncomputable def mAnd(ta tb:DSt→MS Bool):DSt→MS Bool:=fun δ=>(ta δ).b fun x=>if x=true then tb δ else MS.p false
noncomputable def mOr(ta tb:DSt→MS Bool):DSt→MS Bool:=fun δ=>(ta δ).b fun x=>if x=true then MS.p true else tb δ
noncomputable def getO(cs:List Str)(f:Str):D→MS D:=fun x Ω=>match x with
 | .obj i=>match Ω[i]? with
  | some (.ins c fs)=>if cs.contains c then (fs.lookup f).map fun d=>(.ok d,Ω) else none
  | _=>none
 | _=>none
noncomputable def mGet(cs:List Str)(f:Str)(fa:DSt→MS D):DSt→MS D:=fun δ=>(fa δ).b fun x=>getO cs f x
section
variable {X:Cx}{O:List Nat}{a b c e:Expr}{es:List Expr}{fa fb fc:DSt→MS D}{fl:DSt→MS (List D)}{pos:Pos}{ta tb tc:DSt→MS Bool}
theorem jac{f:DSt→M D}(h:DE X O E0 e f):ME X O e (lF f):=by
 rintro pins s σ H Q I ⟨ρ₀,S₀,H₀,F,ρ,S,δ,Ω,R,r,Ω',hf,k⟩
 obtain⟨hg,rfl⟩:=MS.l_inv hf
 refine h pins s σ H Q I ⟨ρ,_,un F S,δ,r,R.rs,hg,?_⟩
 cases r with
 | ok d=>exact fun v H' s' rv=>k v ρ S H' (R.mono s') (RLe.refl _) (jaf s') rv
 | error x=>exact fun c dx H' _ z=>z.elim
theorem jjh{f:DSt→M Bool}(h:DT X O E0 e f):MT X O e (lF f):=by
 rintro pins s σ H Q I ⟨ρ₀,S₀,H₀,F,ρ,S,δ,Ω,R,r,Ω',hf,k⟩
 obtain⟨hg,rfl⟩:=MS.l_inv hf
 refine h pins s σ H Q I ⟨ρ,_,un F S,δ,r,R.rs,hg,?_⟩
 cases r with
 | ok d=>exact fun H' s'=>k ρ S H' (R.mono s') (RLe.refl _) (jaf s')
 | error x=>exact fun c dx H' _ z=>z.elim
theorem jaq{f:DSt→M (List D)}(h:DA X O E0 es f):MA X O es (lF f):=by
 rintro p pins s σ H Q I ⟨ρ₀,S₀,H₀,F,ρ,S,δ,Ω,R,r,Ω',hf,k⟩
 obtain⟨hg,rfl⟩:=MS.l_inv hf
 refine h p pins s σ H Q I ⟨ρ,_,un F S,δ,r,R.rs,hg,?_⟩
 cases r with
 | ok d=>exact fun v H' s' rv=>k v ρ S H' (R.mono s') (RLe.refl _) (jaf s') rv
 | error x=>exact fun c dx H' _ z=>z.elim
theorem jap(ha:ME X O e fa)(hr:MA X O es fl)(hs:autoParam (starEach (e::es) X.env=(false,eval e X.env)::starEach es X.env) zau2._auto_1):MA X O (e::es) (jar fa fl):=by
 rintro p pins s σ H Q I ⟨ρ₀,S₀,H₀,F,ρ,S,δ,Ω,R,r,Ω',hf,k⟩
 refine jhs ha hr hs p pins s σ H Q I ?_
 rcases MS.b_inv hf with ⟨x,Ω1,e1,hf⟩|⟨x,e1,rfl⟩
 ·refine⟨ρ₀,S₀,H₀,F,ρ,S,δ,Ω,R,.ok x,Ω1,e1,fun u ρ1 S1 H1 R1 l1 v1 r1=>?_⟩
  rcases MS.b_inv hf with ⟨xs,Ω2,e2,hf⟩|⟨y,e2,rfl⟩
  ·cases hf
   exact⟨ρ₀,S₀,H₀,F,ρ1,S1,δ,Ω1,R1,.ok xs,_,e2,fun vs ρ2 S2 H2 R2 l2 v2 r2=>k (u::vs) ρ2 S2 H2 R2 (l1.trans l2) (v1.trans v2) (Reps.cons ((r1.rho l2).mono v2) r2)⟩
  ·exact⟨ρ₀,S₀,H₀,F,ρ1,S1,δ,Ω1,R1,.error y,_,e2,trivial⟩
 ·exact⟨ρ₀,S₀,H₀,F,ρ,S,δ,Ω,R,.error x,_,e1,trivial⟩
theorem jlu{g:D→D→Option D}{r:R2}{σ:St}{H:Hp}{Q:VK}(hg:OpD X.K g r)(h:tE X.K X.mg O (m2 g fa fb) σ H Q):tOp r (tE X.K X.mg O fa) (tE X.K X.mg O fb) σ H Q:=by
 obtain⟨ρ₀,S₀,H₀,F,ρ,S,δ,Ω,R,r,Ω',hf,k⟩:=h
 rcases MS.b_inv hf with ⟨x,Ω1,e1,hf⟩|⟨x,e1,rfl⟩
 ·refine⟨ρ₀,S₀,H₀,F,ρ,S,δ,Ω,R,.ok x,Ω1,e1,fun u ρ1 S1 H1 R1 l1 v1 r1=>?_⟩
  rcases MS.b_inv hf with ⟨y,Ω2,e2,hf⟩|⟨y,e2,rfl⟩
  ·refine⟨ρ₀,S₀,H₀,F,ρ1,S1,δ,Ω1,R1,.ok y,Ω2,e2,fun w ρ2 S2 H2 R2 l2 v2 r2=>?_⟩
   obtain⟨d,hd,rfl,rfl⟩:=MS.o_inv hf
   exact hg x y d hd ρ2 H2 _ u w Q (fun p hp=>R2.fresh hp) ((r1.rho l2).mono v2) r2 fun z H3 s3 r3=>k z ρ2 S2 H3 (R2.mono s3) (l1.trans l2) (v1.trans (v2.trans (jaf s3))) r3
  ·exact⟨ρ₀,S₀,H₀,F,ρ1,S1,δ,Ω1,R1,.error y,_,e2,trivial⟩
 ·exact⟨ρ₀,S₀,H₀,F,ρ,S,δ,Ω,R,.error x,_,e1,trivial⟩
theorem jv7{op:Operator}{g:D→D→Option D}{r:R2}(ho:OpR X (binaryOp op) r)(hg:OpD X.K g r)(ha:ME X O a fa)(hb:ME X O b fb):ME X O (.BinOp a op b pos) (m2 g fa fb) :=
 fun pins s σ H Q I h=>jwq ho ha hb pins s σ H Q I (jlu hg h)
theorem jsv{g:D→D→Option D}{r:R2}(ho:IxR X r)(hg:OpD X.K g r)(ha:ME X O a fa)(hb:ME X O b fb)(hs:autoParam (jgo b) zau6._auto_1):ME X O (.Subscript a b pos) (m2 g fa fb) :=
 fun pins s σ H Q I h=>jtf ho ha hb hs pins s σ H Q I (jlu hg h)
theorem jsz{k:List D→Option D}{r:List V→Hp→VK→Prop}{σ:St}{H:Hp}{Q:VK}(hg:CaD X.K k r)(h:tE X.K X.mg O (mL k fl) σ H Q):tCB r (tEL X.K X.mg O fl) σ H Q:=by
 obtain⟨ρ₀,S₀,H₀,F,ρ,S,δ,Ω,R,r,Ω',hf,k⟩:=h
 rcases MS.b_inv hf with ⟨x,Ω1,e1,hf⟩|⟨x,e1,rfl⟩
 ·refine⟨ρ₀,S₀,H₀,F,ρ,S,δ,Ω,R,.ok x,Ω1,e1,fun u ρ1 S1 H1 R1 l1 v1 r1=>?_⟩
  obtain⟨d,hd,rfl,rfl⟩:=MS.o_inv hf
  exact hg x d hd ρ1 H1 _ u Q (fun p hp=>R1.fresh hp) r1 fun z H3 s3 r3=>k z ρ1 S1 H3 (R1.mono s3) l1 (v1.trans (jaf s3)) r3
 ·exact⟨ρ₀,S₀,H₀,F,ρ,S,δ,Ω,R,.error x,_,e1,trivial⟩
theorem jst{k:List D→Option D}{r:List V→Hp→VK→Prop}{x:Str}{id:String}{p:Pos}(hc:CallR X (.builtin id) r)(hg:CaD X.K k r)(hG:Gl X x)(hm:X.mg x=none)(hv:bootBuiltins x=some (.builtin id))(ha:MA X O (e::es) fl)
  (hn:autoParam (x≠"__name__") zau1._auto_1) (hdb:autoParam ((x == ("__debug__":Str))=false) zau1._auto_1) (he:autoParam (starEach (e::es) X.env=(false,eval e X.env)::starEach es X.env) zau2._auto_1) (hpl:autoParam ((backTo pos (starEach es X.env)).any (·.1)=false) zau2._auto_1) :
  ME X O (.Call (.Name x p) (e::es) [] pos) (mL k fl):=fun pins s σ H Q I h=>jft hc hG hm hv ha hn hdb he hpl pins s σ H Q I (jsz hg h)
theorem jy8{x1}(h:MA X O es fl):ME X O (.Tuple es x1 pos) (mL jeb fl):=by
 rintro pins s σ H Q I ⟨ρ₀,S₀,H₀,F,ρ,S,δ,Ω,R,r,Ω',hf,k⟩
 refine jkv h pins s σ H Q I ?_
 rcases MS.b_inv hf with ⟨x,Ω1,e1,hf⟩|⟨x,e1,rfl⟩
 ·refine⟨ρ₀,S₀,H₀,F,ρ,S,δ,Ω,R,.ok x,Ω1,e1,fun u ρ1 S1 H1 R1 l1 v1 r1=>?_⟩
  obtain⟨d,hd,rfl,rfl⟩:=MS.o_inv hf
  unfold jeb at hd
  split at hd
  ·rename_i hz
   cases hd
   exact⟨by rw[r1.length];exact hz,fun p hp=>k _ ρ1 S1 _ (R1.mono (jal hp)) l1 (v1.trans (jaf (jal hp))) (jbc hp (R1.fresh hp) r1)⟩
  ·cases hd
 ·exact⟨ρ₀,S₀,H₀,F,ρ,S,δ,Ω,R,.error x,_,e1,trivial⟩
theorem jui(h:MA X O es fl):ME X O (.List es pos) (mL jcn fl):=by
 rintro pins s σ H Q I ⟨ρ₀,S₀,H₀,F,ρ,S,δ,Ω,R,r,Ω',hf,k⟩
 refine jku h pins s σ H Q I ?_
 rcases MS.b_inv hf with ⟨x,Ω1,e1,hf⟩|⟨x,e1,rfl⟩
 ·refine⟨ρ₀,S₀,H₀,F,ρ,S,δ,Ω,R,.ok x,Ω1,e1,fun u ρ1 S1 H1 R1 l1 v1 r1=>?_⟩
  obtain⟨d,hd,rfl,rfl⟩:=MS.o_inv hf
  unfold jcn at hd
  split at hd
  ·rename_i hz
   cases hd
   exact⟨by rw[r1.length];exact hz,fun p hp=>k _ ρ1 S1 _ (R1.mono (jal hp)) l1 (v1.trans (jaf (jal hp))) (jdj hp (R1.fresh hp) r1)⟩
  ·cases hd
 ·exact⟨ρ₀,S₀,H₀,F,ρ,S,δ,Ω,R,.error x,_,e1,trivial⟩
noncomputable def ju1(X:Cx)(cs:List Str)(f:Str):Prop:=∀ c∈cs,∀ C,X.mg c=some (.ref C)→Cls X.K C∧NoAttr X.K C f
theorem jsf{cs:List Str}{f:Str}{x:D}{Ω Ω':Sto}{r:Except XD D}(h:getO cs f x Ω=some (r,Ω')):∃ i cl fs d,x=.obj i∧Ω[i]? = some (.ins cl fs)∧cs.contains cl=true∧fs.lookup f=some d∧r=.ok d∧Ω'=Ω:=by
 unfold getO at h
 cases x with
 | obj i =>
  dsimp only at h
  cases hi:Ω[i]? with
  | none=>rw[hi] at h;cases h
  | some so =>
   rw[hi] at h
   cases so with
   | lst _=>cases h
   | tab _ _ _ _=>cases h
   | dct _=>cases h
   | ins cl fs =>
    dsimp only at h
    by_cases hc:cs.contains cl=true
    ·rw[if_pos hc] at h
     cases hl:fs.lookup f with
     | none=>rw[hl] at h;cases h
     | some d=>rw[hl] at h;cases h;exact⟨i,cl,fs,d,rfl,hi,hc,hl,rfl,rfl⟩
    ·rw[if_neg hc] at h;cases h
 | _=>cases h
theorem jd9{cs:List Str}{f:Str}(hc:ju1 X cs f)(ha:ME X O e fa)(hb:autoParam (attributeBase e f X.env (eval e X.env)=eval e X.env) zau2._auto_1):ME X O (.Attribute e f pos) (mGet cs f fa):=by
 rintro pins s σ H Q I ⟨ρ₀,S₀,H₀,F,ρ,S,δ,Ω,R,r,Ω',hf,k⟩
 refine jzt ha hb pins s σ H Q I ?_
 rcases MS.b_inv hf with ⟨x,Ω1,e1,hf⟩|⟨x,e1,rfl⟩
 ·refine⟨ρ₀,S₀,H₀,F,ρ,S,δ,Ω,R,.ok x,Ω1,e1,fun u ρ1 S1 H1 R1 l1 v1 r1=>?_⟩
  obtain⟨i,cl,fs,d,rfl,hi,hcl,hl,rfl,rfl⟩:=jsf hf
  obtain⟨ad,q1,q2⟩:=rep_obj.mp r1
  obtain⟨ad',p1,p2,C,dx,vfs,p3,p4,p5,p6,p7⟩:=R1.sto.ats i _ hi
  rw[q1] at p1;cases p1
  obtain⟨g1,g2⟩:=hc cl (List.contains_iff_mem.mp hcl) C p3
  obtain⟨w,w1,w2⟩:=p7.get hl
  exact⟨ad,C,dx,vfs,w,q2,p4,g1,g2,w1,k w ρ1 S1 H1 R1 l1 v1 w2⟩
 ·exact⟨ρ₀,S₀,H₀,F,ρ,S,δ,Ω,R,.error x,_,e1,trivial⟩
theorem jho(ha:ME X O a fa)(he:autoParam (∀ whole,isTrue a X.env whole=(do let v ← whole;standAt a.pos;holding [v] (truthy v))) zau7._auto_1):MT X O a (mTru fa):=by
 rintro pins s σ H Q I ⟨ρ₀,S₀,H₀,F,ρ,S,δ,Ω,R,r,Ω',hf,k⟩
 refine jnd ha he pins s σ H Q I ?_
 rcases MS.b_inv hf with ⟨x,Ω1,e1,hf⟩|⟨x,e1,rfl⟩
 ·refine⟨ρ₀,S₀,H₀,F,ρ,S,δ,Ω,R,.ok x,Ω1,e1,fun u ρ1 S1 H1 R1 l1 v1 r1=>?_⟩
  obtain⟨z,hz,rfl,rfl⟩:=MS.o_inv hf
  refine⟨z,?_,k ρ1 S1 H1 R1 l1 v1⟩
  cases x with
  | non=>cases hz;rw[rep_non.mp r1];rfl
  | bl y=>cases hz;rw[rep_bl.mp r1];rfl
  | int i=>cases hz;rw[rep_int.mp r1];rfl
  | str y =>
   by_cases hl:y.length≤sizeLine
   ·have e:truD (.str y)=some ((y.length:Int) != 0):=if_pos hl
    rw[e] at hz;cases hz
    rw[rep_str.mp r1];exact⟨hl,rfl⟩
   ·have e:truD (.str y)=none:=if_neg hl
    rw[e] at hz;cases hz
  | tup ds =>
   cases hz
   obtain⟨q,xs,rfl,q2,q3⟩:=rep_tup.mp r1
   exact .inr (.inl ⟨xs,jcy jan q2,by rw[isE q3]⟩)
  | lst ds =>
   cases hz
   obtain⟨q,xs,rfl,q2,q3⟩:=rep_lst.mp r1
   exact .inl ⟨xs,jc1 jan q2,by rw[isE q3]⟩
  | ty n=>cases hz
  | obj n=>cases hz
 ·exact⟨ρ₀,S₀,H₀,F,ρ,S,δ,Ω,R,.error x,_,e1,trivial⟩
theorem jkn(ha:MT X O a ta):MT X O (.UnaryOp .Not a pos) (mNot ta):=by
 rintro pins s σ H Q I ⟨ρ₀,S₀,H₀,F,ρ,S,δ,Ω,R,r,Ω',hf,k⟩
 refine jz2 ha pins s σ H Q I ?_
 rcases MS.b_inv hf with ⟨x,Ω1,e1,hf⟩|⟨x,e1,rfl⟩
 ·cases hf
  exact⟨ρ₀,S₀,H₀,F,ρ,S,δ,Ω,R,.ok x,_,e1,fun ρ1 S1 H1 R1 l1 v1=>k ρ1 S1 H1 R1 l1 v1⟩
 ·exact⟨ρ₀,S₀,H₀,F,ρ,S,δ,Ω,R,.error x,_,e1,trivial⟩
theorem MW.mt{f:DSt→MS Bool}(h:MW X O e f):MT X O e f:=PW.pt h
theorem jwc(ha:MT X O a ta):MW X O (.BoolOp .And [a] pos) ta:=jww ha
theorem juj(ha:MT X O a ta):MW X O (.BoolOp .Or [a] pos) ta:=jz4 ha
theorem jzd{rest:List Expr}(ha:MT X O a ta)(hb:MW X O (.BoolOp .And (b::rest) pos) tb):MW X O (.BoolOp .And (a::b::rest) pos) (mAnd ta tb):=by
 rintro wh pins s σ H Q I ⟨ρ₀,S₀,H₀,F,ρ,S,δ,Ω,R,r,Ω',hf,k⟩
 refine jz3 ha hb wh pins s σ H Q I ?_
 rcases MS.b_inv hf with ⟨x,Ω1,e1,hf⟩|⟨x,e1,rfl⟩
 ·refine⟨ρ₀,S₀,H₀,F,ρ,S,δ,Ω,R,.ok x,Ω1,e1,fun ρ1 S1 H1 R1 l1 v1=>?_⟩
  cases x with
  | true =>
   refine iteT ⟨ρ₀,S₀,H₀,F,ρ1,S1,δ,Ω1,R1,r,Ω',hf,?_⟩
   cases r with
   | ok d=>exact fun ρ2 S2 H2 R2 l2 v2=>k ρ2 S2 H2 R2 (l1.trans l2) (v1.trans v2)
   | error y=>trivial
  | false=>cases hf;exact iteF (k ρ1 S1 H1 R1 l1 v1)
 ·exact⟨ρ₀,S₀,H₀,F,ρ,S,δ,Ω,R,.error x,_,e1,trivial⟩
theorem jze{rest:List Expr}(ha:MT X O a ta)(hb:MW X O (.BoolOp .Or (b::rest) pos) tb):MW X O (.BoolOp .Or (a::b::rest) pos) (mOr ta tb):=by
 rintro wh pins s σ H Q I ⟨ρ₀,S₀,H₀,F,ρ,S,δ,Ω,R,r,Ω',hf,k⟩
 refine jB7 ha hb wh pins s σ H Q I ?_
 rcases MS.b_inv hf with ⟨x,Ω1,e1,hf⟩|⟨x,e1,rfl⟩
 ·refine⟨ρ₀,S₀,H₀,F,ρ,S,δ,Ω,R,.ok x,Ω1,e1,fun ρ1 S1 H1 R1 l1 v1=>?_⟩
  cases x with
  | true=>cases hf;exact iteT (k ρ1 S1 H1 R1 l1 v1)
  | false =>
   refine iteF ⟨ρ₀,S₀,H₀,F,ρ1,S1,δ,Ω1,R1,r,Ω',hf,?_⟩
   cases r with
   | ok d=>exact fun ρ2 S2 H2 R2 l2 v2=>k ρ2 S2 H2 R2 (l1.trans l2) (v1.trans v2)
   | error y=>trivial
 ·exact⟨ρ₀,S₀,H₀,F,ρ,S,δ,Ω,R,.error x,_,e1,trivial⟩
end
structure RT(ρ₀:Rho)(S₀:Addr→Bool)(H₀:Hp)(F:Addr→Bool)(K:PySem.W.Frag)(mg:Str→Option Value)(ρ:Rho)(S:Addr→Bool)(H:Hp)(Ω:Sto):Prop where
 rho:RLe ρ₀ ρ
 same:∀ b o,S₀ b=false→H₀ b=some o→H b=some o
 old:∀ b,S₀ b=true→S b=true
 new:∀ b,S b=true→S₀ b=true∨H₀ b=none
 ff:∀ b,F b=true→S b=false
 sto:StoOk ρ S K mg H (hid H (un F S)) Ω
section
variable {ρ₀ ρ ρ':Rho}{S₀ S S' F:Addr→Bool}{H₀ H H':Hp}{K:PySem.W.Frag}{mg:Str→Option Value}{O O' B:List Nat}{σ σ':St}{δ δ':DSt}{Ω Ω':Sto}
theorem jd8{σ:St}{O:List Nat}{F:Addr→Bool}:∀ b,F b=true→fob F σ O b=true:=fun b h=>fob_t.mpr (.inl h)
theorem RM.rt(R:RM ρ₀ S₀ H₀ F K mg O ρ S H σ δ Ω):RT ρ₀ S₀ H₀ F K mg ρ S H Ω :=
 ⟨R.rho,R.same,R.old,R.new,R.ff,R.sto.mono (fun _ _=>rfl) (jcr jd8) (jrk R.sto.tv (jcr jd8))⟩
theorem RM.base_some(R:RM ρ₀ S₀ H₀ F K mg O ρ S H σ δ Ω){b:Addr}{o:HO}(h:H b=some o)(hn:¬ ∃ i∈O,σ[i]? = some (some (.ref b))):hid H (fob nof σ O) b=some o :=
 hid_some.mpr ⟨by cases e:fob nof σ O b with
  | false=>rfl
  | true=>rcases fob_t.mp e with q|q;cases q;exact absurd q hn,h⟩
theorem RM.base_S(R:RM ρ₀ S₀ H₀ F K mg O ρ S H σ δ Ω){b:Addr}(hb:S b=true):¬ ∃ i∈O,σ[i]? = some (some (.ref b)):=by
 rintro⟨i,hi,q⟩
 obtain⟨a,xs,ds,q1,q2,q3,q4,q5⟩:=R.rs.own i hi
 rw[q] at q2;cases q2
 rw[(un_f.mp q4.2).2] at hb;cases hb
theorem RM.base_0(R:RM ρ₀ S₀ H₀ F K mg O ρ S H σ δ Ω){b:Addr}{o:HO}(hb:H₀ b=some o):¬ ∃ i∈O,σ[i]? = some (some (.ref b)):=by
 rintro⟨i,hi,q⟩
 rw[R.own0 i hi b q] at hb;cases hb
theorem RM.no_tup(R:RM ρ₀ S₀ H₀ F K mg O ρ S H σ δ Ω)(s:Same (hid H (fob nof σ O)) H'){b:Addr}{xs:List V}(hb:un F S b=true):H' b≠some (.tup xs):=fun q=>by
 cases e:H b with
 | none=>exact R.rs.fin b hb e
 | some o =>
  have:=s b o (R.base_some e fun ⟨i,hi,y⟩=>by
   obtain⟨a,xs,ds,q1,q2,q3,q4,q5⟩:=R.rs.own i hi
   rw[y] at q2;cases q2
   rw[q4.2] at hb;cases hb)
  rw[q] at this
  cases this
  have:=(hid_some.mp (R.sto.tv b xs e)).1
  rw[jd8 b hb] at this;cases this
theorem RM.next(R:RM ρ₀ S₀ H₀ F K mg O ρ S H σ δ Ω)(R':RS ρ K (hid H (fob nof σ O)) H' (un F S) O' σ' δ')(v:Same (hid H (fob (un F S) σ O)) (hid H' (fob (un F S) σ' O'))):RM ρ₀ S₀ H₀ F K mg O' ρ S H' σ' δ' Ω:=by
 refine⟨R'.rebase,R.rho,fun b o h1 h2=>R'.same b o (R.base_some (R.same b o h1 h2) (R.base_0 h2)),R.old,R.new,fun i hi a q=>?_,R.ff,R.sto.mono (fun b hb=>?_) v fun b xs q=>hid_some.mpr ⟨?_,q⟩⟩
 ·obtain⟨a',xs,ds,q1,q2,q3,q4,q5⟩:=R'.own i hi
  rw[q] at q2;cases q2
  have h0:=q4.1
  cases e:H a with
  | none=>exact R.fresh00 e
  | some o =>
   by_cases hn:∃ i∈O,σ[i]? = some (some (.ref a))
   ·obtain⟨j,hj,z⟩:=hn
    exact R.own0 j hj a z
   ·rw[R.base_some e hn] at h0;cases h0
 ·cases e:H b with
  | none=>exact absurd e (R.sto.fin b hb)
  | some o=>exact R'.same b o (R.base_some e (R.base_S hb))
 ·cases z:fob (un F S) σ' O' b with
  | false=>rfl
  | true =>
   rcases fob_t.mp z with z|⟨i,hi,z⟩
   ·exact absurd q (R.no_tup R'.same z)
   ·obtain⟨a,xs,ds,q1,q2,q3,q4,q5⟩:=R'.own i hi
    rw[z] at q2;cases q2
    rw[q3] at q;cases q
theorem RM.left(R:RM ρ₀ S₀ H₀ F K mg O ρ S H σ δ Ω)(s:Same (hid H (fob nof σ O)) H'):RT ρ₀ S₀ H₀ F K mg ρ S H' Ω:=by
 refine⟨R.rho,fun b o h1 h2=>s b o (R.base_some (R.same b o h1 h2) (R.base_0 h2)),R.old,R.new,R.ff,R.sto.mono (fun b hb=>?_) (fun b o q=>?_) fun b xs q=>hid_some.mpr ⟨?_,q⟩⟩
 ·cases e:H b with
  | none=>exact absurd e (R.sto.fin b hb)
  | some o=>exact s b o (R.base_some e (R.base_S hb))
 ·obtain⟨q1,q2⟩:=hid_some.mp q
  refine hid_some.mpr ⟨?_,s b o (R.base_some q2 fun hn=>?_)⟩
  ·cases e:un F S b with
   | false=>rfl
   | true=>rw[jd8 b e] at q1;cases q1
  ·rw[fob_t.mpr (.inr hn)] at q1;cases q1
 ·cases z:un F S b with
  | false=>rfl
  | true=>exact absurd q (R.no_tup s z)
end
noncomputable def OkE(K:PySem.W.Frag)(mg:Str→Option Value)(O' B:List Nat)(ρ₀:Rho)(S₀:Addr→Bool)(H₀:Hp)(F:Addr→Bool)(ρ:Rho)(Hv:Hp)(Dn:Ends):Except XD Out→Sto→Prop
 | .ok (.nx δ'),Ω'=>∀ ρ' S' σ' H',RM ρ₀ S₀ H₀ F K mg O' ρ' S' H' σ' δ' Ω'→RLe ρ ρ'→Same Hv (hid H' (fob (un F S') σ' O'))→Dn.nx σ' H'
 | .ok (.rt d),Ω'=>∀ v ρ' S' H',RT ρ₀ S₀ H₀ F K mg ρ' S' H' Ω'→Rep ρ' K (hid H' (un F S')) d v→Dn.rt v H'
 | .ok (.bk δ'),Ω'=>∀ ρ' S' σ' H',RM ρ₀ S₀ H₀ F K mg B ρ' S' H' σ' δ' Ω'→RLe ρ ρ'→Same Hv (hid H' (fob (un F S') σ' B))→Dn.bk σ' H'
 | .ok (.ct δ'),Ω'=>∀ ρ' S' σ' H',RM ρ₀ S₀ H₀ F K mg B ρ' S' H' σ' δ' Ω'→RLe ρ ρ'→Same Hv (hid H' (fob (un F S') σ' B))→Dn.ct σ' H'
 | .error _,_=>True
theorem OkE.back{K:PySem.W.Frag}{mg:Str→Option Value}{O' B:List Nat}{ρ₀ ρ ρ':Rho}{S₀:Addr→Bool}{H₀:Hp}{F:Addr→Bool}{Hv Hv':Hp}{Dn:Ends}{r:Except XD Out}{Ω':Sto}(l:RLe ρ ρ')(e:Same Hv Hv')(h:OkE K mg O' B ρ₀ S₀ H₀ F ρ Hv Dn r Ω') :
  OkE K mg O' B ρ₀ S₀ H₀ F ρ' Hv' Dn r Ω':=by
 cases r with
 | error x=>trivial
 | ok o =>
  cases o with
  | nx δ'=>exact fun ρ1 S1 σ1 H1 R l1 v1=>h ρ1 S1 σ1 H1 R (l.trans l1) (e.trans v1)
  | bk δ'=>exact fun ρ1 S1 σ1 H1 R l1 v1=>h ρ1 S1 σ1 H1 R (l.trans l1) (e.trans v1)
  | ct δ'=>exact fun ρ1 S1 σ1 H1 R l1 v1=>h ρ1 S1 σ1 H1 R (l.trans l1) (e.trans v1)
  | rt d=>exact h
inductive sE(K:PySem.W.Frag)(mg:Str→Option Value)(O O' B:List Nat)(g:DSt→MS Out)(Dn:Ends)(σ:St)(H:Hp):Prop
 | mk (ρ₀:Rho) (S₀:Addr→Bool) (H₀:Hp) (F:Addr→Bool) (ρ:Rho) (S:Addr→Bool) (δ:DSt) (Ω:Sto) (R:RM ρ₀ S₀ H₀ F K mg O ρ S H σ δ Ω) (r:Except XD Out) (Ω':Sto) (hf:g δ Ω=some (r,Ω')) (k:OkE K mg O' B ρ₀ S₀ H₀ F ρ (hid H (fob (un F S) σ O)) Dn r Ω')
noncomputable def MSt(X:Cx)(O O' B:List Nat)(st:Stmt)(g:DSt→MS Out):Prop:=PS X st (sE X.K X.mg O O' B g)
noncomputable def MSs(X:Cx)(O O' B:List Nat)(st:List Stmt)(g:DSt→MS Out):Prop:=PSs X st (sE X.K X.mg O O' B g)
noncomputable def eNx:DSt→MS Out:=fun δ=>MS.p (.nx δ)
noncomputable def eSeq(g1 g2:DSt→MS Out):DSt→MS Out:=fun δ=>(g1 δ).b fun o=>match o with
 | .nx δ'=>g2 δ'
 | o=>MS.p o
noncomputable def eSet(i:Nat)(f:DSt→MS D):DSt→MS Out:=fun δ=>(f δ).b fun d=>MS.p (.nx (δ.set i (some d)))
noncomputable def eRet(f:DSt→MS D):DSt→MS Out:=fun δ=>(f δ).b fun d=>MS.p (.rt d)
noncomputable def jff(f:DSt→MS D):DSt→MS Out:=fun δ=>(f δ).b fun _=>MS.p (.nx δ)
noncomputable def eIf(t:DSt→MS Bool)(g1 g2:DSt→MS Out):DSt→MS Out:=fun δ=>(t δ).b fun b=>if b=true then g1 δ else g2 δ
noncomputable def eApp(i:Nat)(f:DSt→MS D):DSt→MS Out:=fun δ=>(f δ).b fun d=>match (δ[i]?).join with
 | some (.lst ds)=>if ds.length<sizeLine then MS.p (.nx (δ.set i (some (.lst (ds++[d]))))) else fun _=>none
 | _=>fun _=>none
noncomputable def putO(cs:List Str)(f:Str)(x d:D):MS Unit:=fun Ω=>match x with
 | .obj i=>match Ω[i]? with
  | some (.ins c fs)=>if (cs.contains c&&decide (fs.length<1000))=true then some (.ok (),Ω.set i (.ins c (putD f d fs))) else none
  | _=>none
 | _=>none
noncomputable def ePut(cs:List Str)(f:Str)(fo fv:DSt→MS D):DSt→MS Out:=fun δ=>(fv δ).b fun d=>(fo δ).b fun x=>(putO cs f x d).b fun _=>MS.p (.nx δ)
noncomputable def forE(g:DSt→MS Out)(tg:D→DSt→Option DSt):List D→DSt→MS Out
 | [],δ=>MS.p (.nx δ)
 | d::ds,δ=>match tg d δ with
  | none=>fun _=>none
  | some δ1=>(g δ1).b fun o=>match o with
   | .nx δ'=>forE g tg ds δ'
   | .ct δ'=>forE g tg ds δ'
   | .bk δ'=>MS.p (.nx δ')
   | .rt v=>MS.p (.rt v)
noncomputable def eFor(fi:DSt→MS (List D))(tg:D→DSt→Option DSt)(g:DSt→MS Out):DSt→MS Out:=fun δ=>(fi δ).b fun ds=>forE g tg ds δ
noncomputable def jdl(t:DSt→MS Bool)(g:DSt→MS Out):Nat→DSt→MS Out
 | 0,_=>fun _=>none
 | n+1,δ=>(t δ).b fun b=>if b=true then (g δ).b fun o=>match o with
   | .nx δ'=>jdl t g n δ'
   | .ct δ'=>jdl t g n δ'
   | .bk δ'=>MS.p (.nx δ')
   | .rt v=>MS.p (.rt v)
  else MS.p (.nx δ)
section
variable {X:Cx}{O O' O'' B:List Nat}{a b c e:Expr}{es:List Expr}{fa fb:DSt→MS D}{fl:DSt→MS (List D)}{pos:Pos}{st:Stmt}{rest:List Stmt}{g g1 g2:DSt→MS Out}{tc:DSt→MS Bool}
theorem jaw{h:DSt→M Out}(hd:DS X O O' B E0 st h):MSt X O O' B st (lF h):=by
 rintro pins s σ H Dn I ⟨ρ₀,S₀,H₀,F,ρ,S,δ,Ω,R,r,Ω',hf,k⟩
 obtain⟨hg,rfl⟩:=MS.l_inv hf
 refine hd pins s σ H Dn I ⟨ρ,_,un F S,δ,r,R.rs,hg,?_⟩
 cases r with
 | error x=>exact fun c dx H' _ z=>z.elim
 | ok o =>
  cases o with
  | nx δ'=>exact fun σ' H' v R'=>k ρ S σ' H' (R.next R' v) (RLe.refl _) v
  | bk δ'=>exact fun σ' H' v R'=>k ρ S σ' H' (R.next R' v) (RLe.refl _) v
  | ct δ'=>exact fun σ' H' v R'=>k ρ S σ' H' (R.next R' v) (RLe.refl _) v
  | rt d=>exact fun v H' s' rv=>k v ρ S H' (R.left s') rv
theorem jcb:MSs X O O B [] eNx:=by
 rintro pins s σ H Dn I ⟨ρ₀,S₀,H₀,F,ρ,S,δ,Ω,R,r,Ω',hf,k⟩
 cases hf
 exact jq3 pins s σ H Dn I (k ρ S σ H R (RLe.refl _) (Same.refl _))
theorem jad(h1:MSt X O O' B st g1)(h2:MSs X O' O'' B rest g2):MSs X O O'' B (st::rest) (eSeq g1 g2):=by
 rintro pins s σ H Dn I ⟨ρ₀,S₀,H₀,F,ρ,S,δ,Ω,R,r,Ω',hf,k⟩
 refine jnc h1 h2 pins s σ H Dn I ?_
 rcases MS.b_inv hf with ⟨o,Ω1,e1,hf⟩|⟨x,e1,rfl⟩
 ·refine⟨ρ₀,S₀,H₀,F,ρ,S,δ,Ω,R,.ok o,Ω1,e1,?_⟩
  cases o with
  | nx δ'=>exact fun ρ1 S1 σ1 H1 R1 l1 v1=>⟨ρ₀,S₀,H₀,F,ρ1,S1,δ',Ω1,R1,r,Ω',hf,k.back l1 v1⟩
  | rt d=>cases hf;exact k
  | bk δ'=>cases hf;exact k
  | ct δ'=>cases hf;exact k
 ·exact⟨ρ₀,S₀,H₀,F,ρ,S,δ,Ω,R,.error x,_,e1,trivial⟩
theorem jat(h1:MSt X O O' B st g):MSs X O O' B [st] g:=fun pins s σ H Dn I h=>jq4 h1 pins s σ H Dn I h
theorem jwb{sts:List Stmt}(hO:∀ i∈O',i∈O)(h:MSs X O' O'' B sts g):MSs X O O'' B sts g:=by
 rintro pins s σ H Dn I ⟨ρ₀,S₀,H₀,F,ρ,S,δ,Ω,R,r,Ω',hf,k⟩
 exact h pins s σ H Dn I ⟨ρ₀,S₀,H₀,F,ρ,S,δ,Ω,R.thaw hO,r,Ω',hf,k.back (RLe.refl _) (jcr (jpy hO))⟩
theorem je3{i:Nat}{x:Str}{pos':Pos}(hN:X.N.Nodup)(he:ME X O e fa)(ho:autoParam (O.contains i=false) zau2._auto_1)(hi:autoParam (X.N[i]? = some x) zau2._auto_1)(hx:autoParam (Loc X.env.scope x) zau8._auto_1)(hs:autoParam (swapsWith e (some (.Name x pos')) pos.line X.env=pure false) zau2._auto_1)
  (hf:autoParam (X.fn x=true∨X.env.scope.names.lookup x=some .local) zau0._auto_1):MSt X O O B (.Assign [.Name x pos'] e pos) (eSet i fa):=by
 rintro pins s σ H Dn I ⟨ρ₀,S₀,H₀,F,ρ,S,δ,Ω,R,r,Ω',hg,k⟩
 have ho':i∉O:=fun z=>by rw[List.contains_iff_mem.mpr z] at ho;cases ho
 refine jnb hN hi hx he hs hf pins s σ H Dn I ?_
 rcases MS.b_inv hg with ⟨d,Ω1,e1,hg⟩|⟨x,e1,rfl⟩
 ·cases hg
  exact⟨ρ₀,S₀,H₀,F,ρ,S,δ,Ω,R,.ok d,_,e1,fun v ρ1 S1 H1 R1 l1 v1 r1=>k ρ1 S1 _ H1 (R1.set ho' r1) l1 (by rw[jck ho'];exact v1)⟩
 ·exact⟨ρ₀,S₀,H₀,F,ρ,S,δ,Ω,R,.error x,_,e1,trivial⟩
theorem jij(he:ME X O e fa):MSt X O O' B (.Return (some e) pos) (eRet fa):=by
 rintro pins s σ H Dn I ⟨ρ₀,S₀,H₀,F,ρ,S,δ,Ω,R,r,Ω',hg,k⟩
 refine jup he pins s σ H Dn I ?_
 rcases MS.b_inv hg with ⟨d,Ω1,e1,hg⟩|⟨x,e1,rfl⟩
 ·cases hg
  exact⟨ρ₀,S₀,H₀,F,ρ,S,δ,Ω,R,.ok d,_,e1,fun v ρ1 S1 H1 R1 l1 v1 r1=>k v ρ1 S1 H1 R1.rt (r1.mono (jcr jd8))⟩
 ·exact⟨ρ₀,S₀,H₀,F,ρ,S,δ,Ω,R,.error x,_,e1,trivial⟩
theorem jdi(he:ME X O e fa)(hs:autoParam (swapsWith e none pos.line X.env=pure false) zau2._auto_1):MSt X O O B (.Expr e pos) (jff fa):=by
 rintro pins s σ H Dn I ⟨ρ₀,S₀,H₀,F,ρ,S,δ,Ω,R,r,Ω',hg,k⟩
 refine jq0 he hs pins s σ H Dn I ?_
 rcases MS.b_inv hg with ⟨d,Ω1,e1,hg⟩|⟨x,e1,rfl⟩
 ·cases hg
  exact⟨ρ₀,S₀,H₀,F,ρ,S,δ,Ω,R,.ok d,_,e1,fun v ρ1 S1 H1 R1 l1 v1 r1=>k ρ1 S1 σ H1 R1 l1 v1⟩
 ·exact⟨ρ₀,S₀,H₀,F,ρ,S,δ,Ω,R,.error x,_,e1,trivial⟩
theorem jfn{s1 s2:List Stmt}(hc:MT X O c tc)(h1:MSs X O O' B s1 g1)(h2:MSs X O O' B s2 g2):MSt X O O' B (.If c s1 s2 pos) (eIf tc g1 g2):=by
 rintro pins s σ H Dn I ⟨ρ₀,S₀,H₀,F,ρ,S,δ,Ω,R,r,Ω',hg,k⟩
 refine jz1 hc h1 h2 pins s σ H Dn I ?_
 rcases MS.b_inv hg with ⟨z,Ω1,e1,hg⟩|⟨x,e1,rfl⟩
 ·refine⟨ρ₀,S₀,H₀,F,ρ,S,δ,Ω,R,.ok z,_,e1,fun ρ1 S1 H1 R1 l1 v1=>?_⟩
  cases z with
  | true=>exact iteT ⟨ρ₀,S₀,H₀,F,ρ1,S1,δ,Ω1,R1,r,Ω',hg,k.back l1 v1⟩
  | false=>exact iteF ⟨ρ₀,S₀,H₀,F,ρ1,S1,δ,Ω1,R1,r,Ω',hg,k.back l1 v1⟩
 ·exact⟨ρ₀,S₀,H₀,F,ρ,S,δ,Ω,R,.error x,_,e1,trivial⟩
theorem jza{i:Nat}{x:Str}{p1 p2 p3:Pos}(ho:O.contains i=true)(he:ME X O e fa)(hi:autoParam (X.N[i]? = some x) zau2._auto_1)(hv:autoParam (Vis X.env.scope x) zau5._auto_1)
  (hd:autoParam ((x == ("__debug__":Str))=false) zau1._auto_1) (hcd:autoParam ((x == ("__classdict__":Str))=false) zau1._auto_1) (hbase:autoParam (attributeBase (.Name x p1) "append" X.env (eval (.Name x p1) X.env)=eval (.Name x p1) X.env) zau2._auto_1)
  (hfew:((backTo p3 (starEach [e] X.env)).all (fun x=>!x.1)&&(backToKw p3 (keywordEach [] X.env)).all (fun x=>x.1.isSome)
   && decide ([e].length+([]:List Keyword).length+(if ([]:List Keyword).isEmpty then 0 else 1)<30))=true:=by rfl)
  (hline:autoParam ((p2.endLine == p3.line)=true) zau2._auto_1) (hs:autoParam (starEach [e] X.env=[(false,eval e X.env)]) zau2._auto_1) (hsw:autoParam (swapsWith (.Call (.Attribute (.Name x p1) "append" p2) [e] [] p3) none pos.line X.env=pure false) zau2._auto_1) :
  MSt X O O B (.Expr (.Call (.Attribute (.Name x p1) "append" p2) [e] [] p3) pos) (eApp i fa):=by
 rintro pins s σ H Dn I ⟨ρ₀,S₀,H₀,F,ρ,S,δ,Ω,R,r,Ω',hg,k⟩
 have ho':i∈O:=List.contains_iff_mem.mp ho
 obtain⟨l,xs0,ds0,q1,q2,q3,q4,q5⟩:=R.rs.own i ho'
 refine jq0 (jzq PySem.F.plainAttrs_list PySem.F.slot_list_append PySem.F.type_list_append jfo (jm9 hi hv hd hcd) (jhs he jm7 hs) hbase hfew hline hs rfl) hsw pins s σ H Dn I ?_
 refine⟨.ref l,q2,.inl ⟨rfl,_,SqL.of q3⟩,?_⟩
 rcases MS.b_inv hg with ⟨d,Ω1,e1,hg⟩|⟨x,e1,rfl⟩
 ·refine⟨ρ₀,S₀,H₀,F,ρ,S,δ,Ω,R,.ok d,_,e1,fun v ρ1 S1 H1 R1 l1 v1 r1=>?_⟩
  have hj:(δ[i]?).join=some (.lst ds0):=by rw[q1];rfl
  rw[hj] at hg
  dsimp only at hg
  split at hg
  ·rename_i hz
   cases hg
   obtain⟨l',xs,ds,p1,p2,p3,p4,p5⟩:=R1.rs.own i ho'
   rw[q2] at p2;cases p2
   rw[q1] at p1;cases p1
   refine⟨l,xs,v,rfl,rfl,p3,by rw[p5.length];exact hz,?_⟩
   refine k ρ1 S1 σ _ (R1.write ho' q2 (p5.append (Reps.cons r1 Reps.nil))) l1 ?_
   rw[jcz (fob_t.mpr (.inr ⟨i,ho',q2⟩))]
   exact v1
  ·cases hg
 ·exact⟨ρ₀,S₀,H₀,F,ρ,S,δ,Ω,R,.error x,_,e1,trivial⟩
end
section
variable {ρ₀ ρ ρ':Rho}{S₀ S S' F:Addr→Bool}{H₀ H H1 H':Hp}{K:PySem.W.Frag}{mg:Str→Option Value}{O O' B:List Nat}{σ σ':St}{δ δ':DSt}{Ω Ω':Sto}
theorem RS.updF{a:Addr}{o:HO}(R:RS ρ K H1 H F O σ δ)(h:F a=true):RS ρ K (hid (upd H a o) (fob nof σ O)) (upd H a o) F O σ δ:=by
 have hh:hid (upd H a o) (fob F σ O)=hid H (fob F σ O):=jcz (jd8 a h)
 refine⟨R.len,jan,fun b hb=>jd2 (R.fin b hb),fun i d hd hi=>by rw[hh];exact R.val i d hd hi,fun i hi=>?_,R.nd⟩
 obtain⟨l,xs,ds,q1,q2,q3,q4,q5⟩:=R.own i hi
 have hl:l≠a:=by rintro rfl;rw[q4.2] at h;cases h
 refine⟨l,xs,ds,q1,q2,by rw[jaj hl];exact q3,⟨?_,q4.2⟩,by rw[hh];exact q5⟩
 unfold hid
 rw[if_pos (fob_t.mpr (.inr ⟨i,hi,q2⟩))]
theorem RM.put(R:RM ρ₀ S₀ H₀ F K mg O ρ S H σ δ Ω){i:Nat}{c f:Str}{fs:List (Str×D)}{a C dx:Addr}{vfs:List (Str×V)}{d:D}{v:V}(hi:Ω[i]? = some (.ins c fs))(ha:ρ i=some a)(hS:S a=true)(hC:mg c=some (.ref C))(hH:H a=some (.ins C dx vfs))
  (hdx:H dx=some (.own a)) (hSd:S dx=true) (hfl:Flds ρ K (hid H (fob (un F S) σ O)) fs vfs) (hr:Rep ρ K (hid H (fob (un F S) σ O)) d v) :
  RM ρ₀ S₀ H₀ F K mg O ρ S (upd H a (.ins C dx (putF f v vfs))) σ δ (Ω.set i (.ins c (putD f d fs)))∧hid (upd H a (.ins C dx (putF f v vfs))) (fob (un F S) σ O)=hid H (fob (un F S) σ O):=by
 have hF:un F S a=true:=un_t.mpr (.inr hS)
 have hh:hid (upd H a (.ins C dx (putF f v vfs))) (fob (un F S) σ O)=hid H (fob (un F S) σ O):=jcz (jd8 a hF)
 have il:i<Ω.length:=(List.getElem?_eq_some_iff.mp hi).1
 refine⟨⟨R.rs.updF hF,R.rho,fun b o h1 h2=>?_,R.old,R.new,R.own0,R.ff,?_⟩,hh⟩
 ·have hb:b≠a:=by
   rintro rfl
   rcases R.new b hS with q|q
   ·rw[q] at h1;cases h1
   ·rw[q] at h2;cases h2
  rw[jaj hb];exact R.same b o h1 h2
 ·rw[hh]
  refine⟨fun j so hj=>?_,R.sto.inj,fun j hj=>R.sto.top j (by simpa using hj),fun b hb=>jd2 (R.sto.fin b hb),jf8 R.sto.tv fun _ z=>nomatch z⟩
  by_cases hji:j=i
  ·subst hji
   rw[List.getElem?_set_self il] at hj
   cases hj
   have nd:dx≠a:=jl3 hdx hH (fun z=>nomatch z)
   exact⟨a,ha,hS,C,dx,_,hC,jag,by rw[jaj nd];exact hdx,hSd,hfl.put hr⟩
  ·rw[List.getElem?_set_ne (Ne.symm hji)] at hj
   obtain⟨a',q1,q2,q3⟩:=R.sto.ats j so hj
   have ne:a'≠a:=by
    rintro rfl
    exact hji (R.sto.inj j i a' q1 ha)
   refine⟨a',q1,q2,?_⟩
   cases so with
   | ins c' fs' =>
    obtain⟨C',dx',vfs',p1,p2,p3,p4,p5⟩:=q3
    have nd:dx'≠a:=jl3 p3 hH (fun z=>nomatch z)
    exact⟨C',dx',vfs',p1,by rw[jaj ne];exact p2,by rw[jaj nd];exact p3,p4,p5⟩
   | lst ds =>
    obtain⟨xs,p1,p2⟩:=q3
    exact⟨xs,by rw[jaj ne];exact p1,p2⟩
   | tab x l c q =>
    obtain⟨ps,p1,p2,p3⟩:=q3
    exact⟨ps,by rw[jaj ne];exact p1,p2,p3⟩
   | dct _ =>
    obtain⟨vk,p1,p2,p3⟩:=q3
    exact⟨vk,by rw[jaj ne];exact p1,p2,p3⟩
theorem jea:un (fob F σ O) S=fob (un F S) σ O:=by
 funext b
 unfold un fob
 simp only
 cases F b<;>cases S b<;>cases (ownA σ O).contains b<;>rfl
theorem RM.call(R:RM ρ₀ S₀ H₀ F K mg O ρ S H σ δ Ω)(l:RLe ρ ρ')(sm:∀ b o,S b=false→H b=some o→H' b=some o)(old:∀ b,S b=true→S' b=true)(new:∀ b,S' b=true→S b=true∨H b=none)
  (ff:∀ b,fob F σ O b=true→S' b=false) (sto:StoOk ρ' S' K mg H' (hid H' (un (fob F σ O) S')) Ω') :
  RM ρ₀ S₀ H₀ F K mg O ρ' S' H' σ δ Ω'∧Same (hid H (fob (un F S) σ O)) (hid H' (fob (un F S') σ O)):=by
 have keepS:∀ b o,S b=false→H b=some o→S' b=false:=fun b o h1 h2=>by
  cases e:S' b with
  | false=>rfl
  | true =>
   rcases new b e with q|q
   ·rw[q] at h1;cases h1
   ·rw[q] at h2;cases h2
 have vis:Same (hid H (fob (un F S) σ O)) (hid H' (fob (un F S') σ O)):=fun b o q=>by
  obtain⟨q1,q2⟩:=hid_some.mp q
  have hu:un F S b=false:=by
   cases e:un F S b with
   | false=>rfl
   | true=>rw[jd8 b e] at q1;cases q1
  obtain⟨h1,h2⟩:=un_f.mp hu
  refine hid_some.mpr ⟨?_,sm b o h2 q2⟩
  cases e:fob (un F S') σ O b with
  | false=>rfl
  | true =>
   rcases fob_t.mp e with z|z
   ·rcases un_t.mp z with z|z
    ·rw[h1] at z;cases z
    ·rw[keepS b o h2 q2] at z;cases z
   ·rw[fob_t.mpr (.inr z)] at q1;cases q1
 have rs:RS ρ' K (hid H' (fob nof σ O)) H' (un F S') O σ δ:=by
  refine⟨R.rs.len,jan,fun b hb=>?_,fun i d hd hi=>?_,fun i hi=>?_,R.rs.nd⟩
  ·rcases un_t.mp hb with q|q
   ·have h1:=R.rs.fin b (un_t.mpr (.inl q))
    intro z
    cases e:H b with
    | none=>exact h1 e
    | some o=>rw[sm b o (R.ff b q) e] at z;cases z
   ·exact sto.fin b q
  ·obtain⟨v,q1,q2⟩:=R.rs.val i d hd hi
   exact⟨v,q1,(q2.rho l).mono vis⟩
  ·obtain⟨a,xs,ds,q1,q2,q3,q4,q5⟩:=R.rs.own i hi
   have hS:=(un_f.mp q4.2).2
   refine⟨a,xs,ds,q1,q2,sm a _ hS q3,⟨?_,un_f.mpr ⟨(un_f.mp q4.2).1,keepS a _ hS q3⟩⟩,(q5.rho l).mono vis⟩
   unfold hid
   rw[if_pos (fob_t.mpr (.inr ⟨i,hi,q2⟩))]
 refine⟨⟨rs,R.rho.trans l,fun b o h1 h2=>?_,fun b hb=>old b (R.old b hb),fun b hb=>?_,R.own0,fun b hb=>ff b (fob_t.mpr (.inl hb)),by rw[jea] at sto;exact sto⟩,vis⟩
 ·have h3:=R.same b o h1 h2
  refine sm b o ?_ h3
  cases e:S b with
  | false=>rfl
  | true =>
   rcases R.new b e with q|q
   ·rw[q] at h1;cases h1
   ·rw[q] at h2;cases h2
 ·rcases new b hb with q|q
  ·exact R.new b q
  ·exact .inr (R.fresh00 q)
noncomputable def addR(ρ:Rho)(n:Nat)(x:Addr):Rho:=fun i=>if i=n then some x else ρ i
noncomputable def addS(S:Addr→Bool)(x dx:Addr):Addr→Bool:=fun b=>S b || b == x || b == dx
theorem addS_t{S:Addr→Bool}{x dx b:Addr}:addS S x dx b=true↔S b=true∨b=x∨b=dx:=by
 unfold addS
 simp only[Bool.or_eq_true,beq_iff_eq,or_assoc]
theorem RM.make(R:RM ρ₀ S₀ H₀ F K mg O ρ S H σ δ Ω){c:Str}{C x dx:Addr}(hC:mg c=some (.ref C))(hx:H x=none)(hdx:H dx=none)(ne:dx≠x) :
  RM ρ₀ S₀ H₀ F K mg O (addR ρ Ω.length x) (addS S x dx) (upd (upd H dx (.own x)) x (.ins C dx [])) σ δ (Ω++[.ins c []])∧RLe ρ (addR ρ Ω.length x) ∧
   Same (hid H (fob (un F S) σ O)) (hid (upd (upd H dx (.own x)) x (.ins C dx [])) (fob (un F (addS S x dx)) σ O)):=by
 have top:=R.sto.top Ω.length (Nat.le_refl _)
 have l:RLe ρ (addR ρ Ω.length x):=fun i a h=>by
  unfold addR
  by_cases e:i=Ω.length
  ·subst e;rw[top] at h;cases h
  ·rw[if_neg e];exact h
 have sm:Same H (upd (upd H dx (.own x)) x (.ins C dx [])):=(jal hdx).trans (jal (by rw[jaj ne.symm];exact hx))
 have old:∀ b,S b=true→addS S x dx b=true:=fun b h=>addS_t.mpr (.inl h)
 have new:∀ b,addS S x dx b=true→S b=true∨H b=none:=fun b h=>by
  rcases addS_t.mp h with q|rfl|rfl
  ·exact .inl q
  ·exact .inr hx
  ·exact .inr hdx
 have ff:∀ b,fob F σ O b=true→addS S x dx b=false:=fun b h=>by
  have h2:fob (un F S) σ O b=true:=by rw[← jea];exact un_t.mpr (.inl h)
  cases e:addS S x dx b with
  | false=>rfl
  | true =>
   rcases addS_t.mp e with q|rfl|rfl
   ·rcases fob_t.mp h with z|z
    ·rw[R.ff b z] at q;cases q
    ·exact absurd z (R.base_S q)
   ·rw[R.fresh hx] at h2;cases h2
   ·rw[R.fresh hdx] at h2;cases h2
 have keep:∀ b,S b=true→(upd (upd H dx (.own x)) x (.ins C dx [])) b=H b:=R.at_store sm
 have vis0:Same (hid H (fob (un F S) σ O)) (hid (upd (upd H dx (.own x)) x (.ins C dx [])) (un (fob F σ O) (addS S x dx))):=fun b o q=>by
  obtain⟨q1,q2⟩:=hid_some.mp q
  refine hid_some.mpr ⟨?_,sm b o q2⟩
  cases e:un (fob F σ O) (addS S x dx) b with
  | false=>rfl
  | true =>
   rcases un_t.mp e with z|z
   ·have h2:fob (un F S) σ O b=true:=by rw[← jea];exact un_t.mpr (.inl z)
    rw[h2] at q1;cases q1
   ·rcases new b z with z|z
    ·have h2:fob (un F S) σ O b=true:=jd8 b (un_t.mpr (.inr z))
     rw[h2] at q1;cases q1
    ·rw[z] at q2;cases q2
 have sto:StoOk (addR ρ Ω.length x) (addS S x dx) K mg (upd (upd H dx (.own x)) x (.ins C dx [])) (hid (upd (upd H dx (.own x)) x (.ins C dx [])) (un (fob F σ O) (addS S x dx))) (Ω++[.ins c []]):=by
  refine⟨fun i so hi=>?_,fun i j a h1 h2=>?_,fun i hi=>?_,fun b hb=>?_,jrk (jf8 (jf8 R.sto.tv fun _ z=>nomatch z) fun _ z=>nomatch z) vis0⟩
  ·by_cases h:i<Ω.length
   ·rw[List.getElem?_append_left h] at hi
    obtain⟨a,q1,q2,q3⟩:=R.sto.ats i so hi
    refine⟨a,l i a q1,old a q2,?_⟩
    cases so with
    | ins c' fs' =>
     obtain⟨C',dx',vfs',p1,p2,p3,p4,p5⟩:=q3
     exact⟨C',dx',vfs',p1,by rw[keep a q2];exact p2,by rw[keep dx' p4];exact p3,old _ p4,p5.mono l vis0⟩
    | lst ds =>
     obtain⟨xs,p1,p2⟩:=q3
     exact⟨xs,by rw[keep a q2];exact p1,(p2.rho l).mono vis0⟩
    | tab _ _ _ _ =>
     obtain⟨ps,p1,p2,p3⟩:=q3
     exact⟨ps,by rw[keep a q2];exact p1,p2,p3.mono vis0⟩
    | dct _ =>
     obtain⟨vk,p1,p2,p3⟩:=q3
     exact⟨vk,by rw[keep a q2];exact p1,p2,(p3.rho l).mono vis0⟩
   ·have e:i=Ω.length:=by
     have:=(List.getElem?_eq_some_iff.mp hi).1
     simp at this;omega
    subst e
    rw[List.getElem?_append_right (Nat.le_refl _),Nat.sub_self] at hi
    cases hi
    exact⟨x,by unfold addR;rw[if_pos rfl],addS_t.mpr (.inr (.inl rfl)),C,dx,[],hC,jag,by rw[jaj ne,jag],addS_t.mpr (.inr (.inr rfl)),rfl⟩
  ·have fresh:∀ i a,i≠Ω.length→ρ i=some a→a≠x:=fun i a hi h z=>by
    subst z
    have il:i<Ω.length:=by
     by_cases q:i<Ω.length
     ·exact q
     ·rw[R.sto.top i (by omega)] at h;cases h
    obtain⟨a',q1,q2,_⟩:=R.sto.ats i _ (List.getElem?_eq_getElem il)
    rw[h] at q1;cases q1
    exact R.sto.fin a q2 hx
   unfold addR at h1 h2
   by_cases e1:i=Ω.length
   ·by_cases e2:j=Ω.length
    ·rw[e1,e2]
    ·rw[if_pos e1] at h1;rw[if_neg e2] at h2
     cases h1
     exact absurd rfl (fresh j _ e2 h2)
   ·by_cases e2:j=Ω.length
    ·rw[if_neg e1] at h1;rw[if_pos e2] at h2
     cases h2
     exact absurd rfl (fresh i _ e1 h1)
    ·rw[if_neg e1] at h1;rw[if_neg e2] at h2
     exact R.sto.inj i j a h1 h2
  ·rw[List.length_append,List.length_singleton] at hi
   unfold addR
   rw[if_neg (by omega)]
   exact R.sto.top i (by omega)
  ·rcases addS_t.mp hb with q|rfl|rfl
   ·rw[keep b q];exact R.sto.fin b q
   ·rw[jag];exact fun z=>nomatch z
   ·rw[jaj ne,jag];exact fun z=>nomatch z
 obtain⟨t1,t2⟩:=R.call l (fun b o _ h=>sm b o h) old new ff sto
 exact⟨t1,l,t2⟩
end
inductive spE(K:PySem.W.Frag)(mg:Str→Option Value)(n:Nat)(m:List D→MS D)(vs:List V)(H:Hp)(Q:VK)(E:XK):Prop
 | mk (hn:vs.length=n) (ρ:Rho) (S F:Addr→Bool) (ds:List D) (Ω:Sto) (hF:∀ b,F b=true→H b≠none) (hS:∀ b,F b=true→S b=false) (hr:Reps ρ K (hid H (un F S)) ds vs) (hs:StoOk ρ S K mg H (hid H (un F S)) Ω) (r:Except XD D) (Ω':Sto) (hf:m ds Ω=some (r,Ω')) (k:match (generalizing:=false) r with
  | .ok d=>∀ v ρ' S' H',RLe ρ ρ'→(∀ b o,S b=false→H b=some o→H' b=some o)→(∀ b,S b=true→S' b=true)→(∀ b,S' b=true→S b=true∨H b=none)→(∀ b,F b=true→S' b=false)→StoOk ρ' S' K mg H' (hid H' (un F S')) Ω'→Rep ρ' K (hid H' (un F S')) d v→Q v H'
  | .error _=>True)
inductive MetX(P:Program)(w:World)(K:PySem.W.Frag)(mg:Str→Option Value)(base:Heap)(k:Nat)(c x:Str)(n:Nat)(sp:Sp):Prop
 | mk (C f:Addr) (fd:FuncData) (ps:List Str) (h1:ps.length=n) (h2:mg c=some (.ref C)) (h3:Cls K C) (h4:Meth K C x f) (h5:Binds K fd ps []) (h6:FnOk P w K mg base CX0 k f fd ps sp)
inductive IniX(P:Program)(w:World)(K:PySem.W.Frag)(mg:Str→Option Value)(base:Heap)(k:Nat)(c:Str)(n:Nat)(sp:Sp):Prop
 | mk (C f:Addr) (fd:FuncData) (ps:List Str) (h1:ps.length=n) (h2:mg c=some (.ref C)) (h3:Mk K C f) (h4:Binds K fd ps []) (h5:FnOk P w K mg base CX0 k f fd ps sp)
structure CalE(P:Program)(w:World)(K:PySem.W.Frag)(mg:Str→Option Value)(base:Heap)(k:Nat)(x:Str)(n:Nat)(m:List D→MS D):Prop where
 ex:CalX P w K mg base k x n (spE K mg n m)
 ar:∀ ds Ω r,m ds Ω=some r→ds.length=n
structure MetE(P:Program)(w:World)(K:PySem.W.Frag)(mg:Str→Option Value)(base:Heap)(k:Nat)(c x:Str)(n:Nat)(m:List D→MS D):Prop where
 ex:MetX P w K mg base k c x n (spE K mg n m)
 ar:∀ ds Ω r,m ds Ω=some r→ds.length=n
structure IniE(P:Program)(w:World)(K:PySem.W.Frag)(mg:Str→Option Value)(base:Heap)(k:Nat)(c:Str)(n:Nat)(m:List D→MS D):Prop where
 ex:IniX P w K mg base k c n (spE K mg n m)
 ar:∀ ds Ω r,m ds Ω=some r→ds.length=n
noncomputable def outE:Out→MS D
 | .rt d=>MS.p d
 | .nx _=>MS.p .non
 | _=>fun _=>none
noncomputable def mirE(n N:Nat)(g:DSt→MS Out):List D→MS D:=fun ds=>if ds.length=n then (g (startD N ds)).b outE else fun _=>none
theorem jl0{n N:Nat}{g:DSt→MS Out}:∀ ds Ω r,mirE n N g ds Ω=some r→ds.length=n:=fun ds Ω r h=>by
 unfold mirE at h
 split at h
 ·assumption
 ·cases h
section
variable {P:Program}{w:World}{K:PySem.W.Frag}{mg:Str→Option Value}{base:Heap}
theorem fn_E{x q:Str}{st:Stmt}{N ps:List Str}{k:Nat}{O':List Nat}{g:DSt→MS Out}{f:Addr}{fd:FuncData}(F:Fun K x q st f fd)(Sc:FnScope N ps (jab st))
  (hbody:∀ (f:Addr) (cdv:Value) (A:Around) (outer:List Env) (s:Shared) (H:Hp) (E:XK),Room k (A.deeper (PyProof.Rows.envOfC q (jab st) s.heap.objs.size f cdv)) →
   MSs (cxOf CX0 P w K mg base N q (jab st) f cdv A outer s H E).nox [] O' [] (jak st) g):FnOk P w K mg base CX0 (k+1) f fd ps (spE K mg ps.length (mirE ps.length N.length g)):=by
 refine F.ok Sc (fun vs H Q E h=>h.1) fun cdv A outer s H vs Q E hr h=>?_
 obtain⟨hl,ρ,S,F',ds,Ω,fin,ff,rp,sto,r,Ω',hmr,k0⟩:=h
 refine⟨_,hbody f cdv A outer s H E hr,?_⟩
 have hpl:ps.length≤N.length:=by have:=congrArg List.length Sc.pre;rw[List.length_take] at this;omega
 have hdl:ds.length=ps.length:=by rw[← rp.length];exact hl
 unfold mirE at hmr
 rw[if_pos hdl] at hmr
 have R:RM ρ S H F' K mg [] ρ S H (L2.start N vs) (startD N.length ds) Ω:=by
  refine⟨⟨?_,jan,fun b hb=>?_,fun i d hd _=>?_,fun i hi=>absurd hi (by simp),fun i hi=>absurd hi (by simp)⟩,RLe.refl _,fun b o _ h=>h,fun b h=>h,fun b h=>.inl h,fun i hi=>absurd hi (by simp),ff,by rw[ja3];exact sto⟩
  ·simp[L2.start,startD,rp.length]
  ·rcases un_t.mp hb with z|z
   ·exact fin b z
   ·exact sto.fin b z
  ·obtain⟨v,e,rv⟩:=rp.get (jit hd)
   exact⟨v,jk9 e,by rw[ja3];exact rv⟩
 rcases MS.b_inv hmr with ⟨o,Ω1,e1,hmr⟩|⟨y,e1,rfl⟩
 ·refine⟨ρ,S,H,F',ρ,S,_,Ω,R,.ok o,Ω1,e1,?_⟩
  cases o with
  | rt d =>
   cases hmr
   exact fun v ρ' S' H' T rv=>k0 v ρ' S' H' T.rho T.same T.old T.new T.ff T.sto rv
  | nx δ =>
   cases hmr
   exact fun ρ' S' σ' H' R' _ _=>k0 .non ρ' S' H' R'.rt.rho R'.rt.same R'.rt.old R'.rt.new R'.rt.ff R'.rt.sto (rep_non.mpr rfl)
  | bk δ=>cases hmr
  | ct δ=>cases hmr
 ·exact⟨ρ,S,H,F',ρ,S,_,Ω,R,.error y,_,e1,trivial⟩
theorem jgt{x:Str}{st:Stmt}{N ps:List Str}{k:Nat}{O':List Nat}{g:DSt→MS Out}(hf:jfx K mg x st ps)(S:FnScope N ps (jab st))
  (hbody:∀ (f:Addr) (cdv:Value) (A:Around) (outer:List Env) (s:Shared) (H:Hp) (E:XK),Room k (A.deeper (PyProof.Rows.envOfC x (jab st) s.heap.objs.size f cdv)) →
   MSs (cxOf CX0 P w K mg base N x (jab st) f cdv A outer s H E).nox [] O' [] (jak st) g):CalE P w K mg base (k+1) x ps.length (mirE ps.length N.length g):=by
 obtain⟨f,fd,hm,F,hb⟩:=hf
 exact⟨⟨f,fd,ps,rfl,hm,F.kp,hb,fn_E F S hbody⟩,jl0⟩
structure MetAt(K:PySem.W.Frag)(mg:Str→Option Value)(c x q:Str)(st:Stmt)(ps:List Str):Prop where
 ex:∃ C f fd,mg c=some (.ref C)∧Cls K C∧Meth K C x f∧Fun K x q st f fd∧Binds K fd ps []
structure IniAt(K:PySem.W.Frag)(mg:Str→Option Value)(c q:Str)(st:Stmt)(ps:List Str):Prop where
 ex:∃ C f fd,mg c=some (.ref C)∧Mk K C f∧Fun K "__init__" q st f fd∧Binds K fd ps []
theorem jel{c x q:Str}{st:Stmt}{N ps:List Str}{k:Nat}{O':List Nat}{g:DSt→MS Out}(hf:MetAt K mg c x q st ps)(S:FnScope N ps (jab st))
  (hbody:∀ (f:Addr) (cdv:Value) (A:Around) (outer:List Env) (s:Shared) (H:Hp) (E:XK),Room k (A.deeper (PyProof.Rows.envOfC q (jab st) s.heap.objs.size f cdv)) →
   MSs (cxOf CX0 P w K mg base N q (jab st) f cdv A outer s H E).nox [] O' [] (jak st) g):MetE P w K mg base (k+1) c x ps.length (mirE ps.length N.length g):=by
 obtain⟨C,f,fd,hm,hc,hM,F,hb⟩:=hf.ex
 exact⟨⟨C,f,fd,ps,rfl,hm,hc,hM,hb,fn_E F S hbody⟩,jl0⟩
theorem jvs{c q:Str}{st:Stmt}{N ps:List Str}{k:Nat}{O':List Nat}{g:DSt→MS Out}(hf:IniAt K mg c q st ps)(S:FnScope N ps (jab st))
  (hbody:∀ (f:Addr) (cdv:Value) (A:Around) (outer:List Env) (s:Shared) (H:Hp) (E:XK),Room k (A.deeper (PyProof.Rows.envOfC q (jab st) s.heap.objs.size f cdv)) →
   MSs (cxOf CX0 P w K mg base N q (jab st) f cdv A outer s H E).nox [] O' [] (jak st) g):IniE P w K mg base (k+1) c ps.length (mirE ps.length N.length g):=by
 obtain⟨C,f,fd,hm,hM,F,hb⟩:=hf.ex
 exact⟨⟨C,f,fd,ps,rfl,hm,hM,hb,fn_E F S hbody⟩,jl0⟩
theorem jvz{m:List D→MS D}{H:Hp}{a:Addr}{ns:List Int}{Ω':Sto}(hS:SqL K H a (ns.map V.int))(h:m [.lst (ns.map .int)] []=some (.ok (.bl true),Ω')):spE K mg 1 m [.ref a] H (fun v _=>v=.bl true) fun _ _ _=>False:=by
 refine⟨rfl,fun _=>none,fun _=>false,fun _=>false,[.lst (ns.map .int)],[],(fun b hb=>by cases hb),(fun b hb=>by cases hb),Reps.cons (rep_lst.mpr ⟨a,_,rfl,?_,reps_ints.mpr rfl⟩) Reps.nil,⟨fun i so hi=>by simp at hi,fun i j a h=>(nomatch h),fun i _=>rfl,(fun b hb=>by cases hb),fun _ _ q=>q⟩,_,_,h,fun v ρ' S' H' _ _ _ _ _ _ r=>rep_bl.mp r⟩
 have:hid H (un (fun _=>false) fun _=>false)=H:=by funext b;rfl
 rw[this];exact hS
end
noncomputable def jfa(m:List D→MS D)(fl:DSt→MS (List D)):DSt→MS D:=fun δ=>(fl δ).b m
noncomputable def jy4(m:List D→M D)(fl:DSt→MS (List D)):DSt→MS D:=fun δ=>(fl δ).b fun ds=>MS.l (m ds)
noncomputable def jn3(c x:Str)(m:List D→MS D)(i:Nat)(fl:DSt→MS (List D))(δ:DSt):MS D:=fun Ω=>match Ω[i]? with
 | some (.ins c' fs)=>if c'=c∧fs.lookup x=none then ((fl δ).b fun ds=>m (.obj i::ds)) Ω else none
 | _=>none
noncomputable def jdh(c x:Str)(m:List D→MS D)(fo:DSt→MS D)(fl:DSt→MS (List D)):DSt→MS D:=fun δ=>(fo δ).b fun o=>match o with
 | .obj i=>jn3 c x m i fl δ
 | _=>fun _=>none
noncomputable def jqa(c:Str)(m:List D→MS D)(ds:List D):MS D:=fun Ω=>((m (.obj Ω.length::ds)).b fun d=>match d with
 | .non=>MS.p (.obj Ω.length)
 | _=>fun _=>none) (Ω++[.ins c []])
noncomputable def jnz(c:Str)(m:List D→MS D)(fl:DSt→MS (List D)):DSt→MS D:=fun δ=>(fl δ).b fun ds=>jqa c m ds
section
variable {X:Cx}{O:List Nat}{a b o e:Expr}{es:List Expr}{fa fb fo:DSt→MS D}{fl:DSt→MS (List D)}{pos p apos:Pos}{x c:Str}{k n:Nat}
variable {ρ₀ ρ:Rho}{S₀ S F:Addr→Bool}{H₀ H:Hp}{σ:St}{δ:DSt}{Ω Ω':Sto}
theorem jk8{m:List D→MS D}{ds:List D}{vs:List V}{r:Except XD D}{Q:VK}{E:XK}(R:RM ρ₀ S₀ H₀ F X.K X.mg O ρ S H σ δ Ω)(hl:ds.length=n)(hr:Reps ρ X.K (hid H (fob (un F S) σ O)) ds vs)(hm:m ds Ω=some (r,Ω'))
  (k:match (generalizing:=false) r with
   | .ok d=>∀ v ρ' S' H',RM ρ₀ S₀ H₀ F X.K X.mg O ρ' S' H' σ δ Ω'→RLe ρ ρ'→Same (hid H (fob (un F S) σ O)) (hid H' (fob (un F S') σ O))→Rep ρ' X.K (hid H' (fob (un F S') σ O)) d v→Q v H'
   | .error _=>True):spE X.K X.mg n m vs H Q E:=by
 refine⟨by rw[hr.length];exact hl,ρ,S,fob F σ O,ds,Ω,fun b hb=>?_,fun b hb=>?_,by rw[jea];exact hr,by rw[jea];exact R.sto,r,Ω',hm,?_⟩
 ·intro z
  have:=R.fresh z
  rw[← jea,un_t.mpr (.inl hb)] at this;cases this
 ·rcases fob_t.mp hb with z|z
  ·exact R.ff b z
  ·cases e:S b with
   | false=>rfl
   | true=>exact absurd z (R.base_S e)
 ·cases r with
  | error x=>trivial
  | ok d =>
   intro v ρ' S' H' l sm old new ff sto rv
   obtain⟨t1,t2⟩:=R.call l sm old new ff sto
   rw[jea] at rv
   exact k v ρ' S' H' t1 l t2 rv
theorem jek{m:List D→MS D}(C:CalE X.prog X.w X.K X.mg X.base k x n m)(hr:Room k X.A)(ha:MA X O (e::es) fl)(hg:autoParam (Gl X x) zau2._auto_1)(hdb:autoParam ((x == ("__debug__":Str))=false) zau1._auto_1)(he:autoParam (starEach (e::es) X.env=(false,eval e X.env)::starEach es X.env) zau2._auto_1)
  (hpl:autoParam ((backTo pos (starEach es X.env)).any (·.1)=false) zau2._auto_1):ME X O (.Call (.Name x p) (e::es) [] pos) (jfa m fl):=by
 obtain⟨f,fd,ps,hl,hm,hk,hb,G⟩:=C.ex
 rintro pins s σ H Q I ⟨ρ₀,S₀,H₀,F,ρ,S,δ,Ω,R,r,Ω',hf,k⟩
 refine jqv G hr hg hm hk hb .nil (fun _ _ _ _ _ _ _ z=>z.elim) ha hdb he hpl pins s σ H Q I (E:=E0) ?_
 rcases MS.b_inv hf with ⟨ds,Ω1,e1,hf⟩|⟨y,e1,rfl⟩
 ·refine⟨ρ₀,S₀,H₀,F,ρ,S,δ,Ω,R,.ok ds,Ω1,e1,fun vs ρ1 S1 H1 R1 l1 v1 r1=>?_⟩
  show spE X.K X.mg n m (vs++[]) H1 Q E0
  rw[List.append_nil]
  refine jk8 R1 (C.ar ds Ω1 _ hf) r1 hf ?_
  cases r with
  | error y=>trivial
  | ok d=>exact fun v ρ2 S2 H2 R2 l2 v2 r2=>k v ρ2 S2 H2 R2 (l1.trans l2) (v1.trans v2) r2
 ·exact⟨ρ₀,S₀,H₀,F,ρ,S,δ,Ω,R,.error y,_,e1,trivial⟩
theorem jm2{c x:Str}{m:List D→MS D}{fl:DSt→MS (List D)}{δ:DSt}{od:D}{Ω Ω':Sto}{r:Except XD D}(h:(match od with
   | .obj i=>jn3 c x m i fl δ
   | _=>fun _=>none:MS D) Ω=some (r,Ω')):∃ i fs,od=.obj i∧Ω[i]? = some (.ins c fs)∧fs.lookup x=none∧((fl δ).b fun ds=>m (.obj i::ds)) Ω=some (r,Ω'):=by
 cases od with
 | obj i =>
  have h2:jn3 c x m i fl δ Ω=some (r,Ω'):=h
  unfold jn3 at h2
  cases hi:Ω[i]? with
  | none=>rw[hi] at h2;cases h2
  | some so =>
   rw[hi] at h2
   cases so with
   | lst _=>cases h2
   | tab _ _ _ _=>cases h2
   | dct _=>cases h2
   | ins c' fs =>
    dsimp only at h2
    by_cases hc:c'=c∧fs.lookup x=none
    ·rw[if_pos hc] at h2
     obtain⟨rfl,hn⟩:=hc
     exact⟨i,fs,rfl,hi,hn,h2⟩
    ·rw[if_neg hc] at h2;cases h2
 | _=>cases h
theorem jhn{pl:Sem Bool}{m:List D→MS D}(C:MetE X.prog X.w X.K X.mg X.base k c x n m)(hr:Room k X.A)(ho:ME X O o fo)(ha:MA X O (e::es) fl)(hst:autoParam (starEach (e::es) X.env=(false,eval e X.env)::starEach es X.env) zau2._auto_1)(hpl:autoParam ((backTo pos (starEach es X.env)).any (·.1)=false) zau2._auto_1)
  (ht:eval (.Call (.Attribute o x apos) (e::es) [] pos) X.env=(do
   let ov ← eval o X.env
   standAt apos.atName
   let (f,first) ← holding [ov] (getMethod ov x pl)
   callWith pos f first (backTo pos (starEach (e::es) X.env)) (backToKw pos (keywordEach [] X.env))):=by rfl):ME X O (.Call (.Attribute o x apos) (e::es) [] pos) (jdh c x m fo fl):=by
 obtain⟨Ca,f,fd,ps,hl,hm,hc,hM,hb,G⟩:=C.ex
 rintro pins s σ H Q I ⟨ρ₀,S₀,H₀,F,ρ,S,δ,Ω,R,r,Ω',hf,k⟩
 refine jwp ho hc hM G hr hb .nil (fun _ _ _ _ _ _ _ z=>z.elim) ha hst hpl ht pins s σ H Q I (E:=E0) ?_
 rcases MS.b_inv hf with ⟨od,Ω1,e1,hf⟩|⟨y,e1,rfl⟩
 ·refine⟨ρ₀,S₀,H₀,F,ρ,S,δ,Ω,R,.ok od,Ω1,e1,fun v ρ1 S1 H1 R1 l1 v1 r1=>?_⟩
  obtain⟨i,fs,rfl,hi,hno,hf2⟩:=jm2 hf
  obtain⟨ad,q1,q2⟩:=rep_obj.mp r1
  obtain⟨ad',p1,p2,C',dx,vfs,p3,p4,p5,p6,p7⟩:=R1.sto.ats i _ hi
  rw[q1] at p1;cases p1
  rw[hm] at p3;cases p3
  refine⟨ad,dx,vfs,q2,p4,p7.none hno,?_⟩
  rcases MS.b_inv hf2 with ⟨ds,Ω2,e2,hf3⟩|⟨y,e2,rfl⟩
  ·refine⟨ρ₀,S₀,H₀,F,ρ1,S1,δ,Ω1,R1,.ok ds,Ω2,e2,fun vs ρ2 S2 H2 R2 l2 v2 r2=>?_⟩
   show spE X.K X.mg n m (v::(vs++[])) H2 Q E0
   rw[List.append_nil]
   refine jk8 R2 (C.ar _ _ _ hf3) (Reps.cons ((r1.rho l2).mono v2) r2) hf3 ?_
   cases r with
   | error y=>trivial
   | ok d=>exact fun v' ρ3 S3 H3 R3 l3 v3 r3=>k v' ρ3 S3 H3 R3 (l1.trans (l2.trans l3)) (v1.trans (v2.trans v3)) r3
  ·exact⟨ρ₀,S₀,H₀,F,ρ1,S1,δ,Ω1,R1,.error y,_,e2,trivial⟩
 ·exact⟨ρ₀,S₀,H₀,F,ρ,S,δ,Ω,R,.error y,_,e1,trivial⟩
theorem jew{pl:Sem Bool}{m:List D→MS D}(C:MetE X.prog X.w X.K X.mg X.base k c x n m)(hr:Room k X.A)(ho:ME X O o fo)
  (ht:eval (.Call (.Attribute o x apos) [] [] pos) X.env=(do
   let ov ← eval o X.env
   standAt apos.atName
   let (f,first) ← holding [ov] (getMethod ov x pl)
   callWith pos f first (backTo pos (starEach [] X.env)) (backToKw pos (keywordEach [] X.env))):=by rfl):ME X O (.Call (.Attribute o x apos) [] [] pos) (jdh c x m fo (lF fNil)):=by
 obtain⟨Ca,f,fd,ps,hl,hm,hc,hM,hb,G⟩:=C.ex
 rintro pins s σ H Q I ⟨ρ₀,S₀,H₀,F,ρ,S,δ,Ω,R,r,Ω',hf,k⟩
 refine jtg ho hc hM G hr hb .nil (fun _ _ _ _ _ _ _ z=>z.elim) ht pins s σ H Q I (E:=E0) ?_
 rcases MS.b_inv hf with ⟨od,Ω1,e1,hf⟩|⟨y,e1,rfl⟩
 ·refine⟨ρ₀,S₀,H₀,F,ρ,S,δ,Ω,R,.ok od,Ω1,e1,fun v ρ1 S1 H1 R1 l1 v1 r1=>?_⟩
  obtain⟨i,fs,rfl,hi,hno,hf2⟩:=jm2 hf
  obtain⟨ad,q1,q2⟩:=rep_obj.mp r1
  obtain⟨ad',p1,p2,C',dx,vfs,p3,p4,p5,p6,p7⟩:=R1.sto.ats i _ hi
  rw[q1] at p1;cases p1
  rw[hm] at p3;cases p3
  refine⟨ad,dx,vfs,q2,p4,p7.none hno,?_⟩
  have hf3:m [.obj i] Ω1=some (r,Ω'):=hf2
  show spE X.K X.mg n m [v] H1 Q E0
  refine jk8 R1 (C.ar _ _ _ hf3) (Reps.cons r1 Reps.nil) hf3 ?_
  cases r with
  | error y=>trivial
  | ok d=>exact fun v' ρ3 S3 H3 R3 l3 v3 r3=>k v' ρ3 S3 H3 R3 (l1.trans l3) (v1.trans v3) r3
 ·exact⟨ρ₀,S₀,H₀,F,ρ,S,δ,Ω,R,.error y,_,e1,trivial⟩
theorem jv2{m:List D→MS D}{Ca f:Addr}{vs:List V}{ds:List D}{r:Except XD D}{Q:VK}(hm:X.mg c=some (.ref Ca))(ar:∀ ds Ω r,m ds Ω=some r→ds.length=n)(R:RM ρ₀ S₀ H₀ F X.K X.mg O ρ S H σ δ Ω)(hr:Reps ρ X.K (hid H (fob (un F S) σ O)) ds vs)(hf:jqa c m ds Ω=some (r,Ω'))
  (k:match (generalizing:=false) r with
   | .ok d=>∀ v ρ' S' H',RM ρ₀ S₀ H₀ F X.K X.mg O ρ' S' H' σ δ Ω'→RLe ρ ρ'→Same (hid H (fob (un F S) σ O)) (hid H' (fob (un F S') σ O))→Rep ρ' X.K (hid H' (fob (un F S') σ O)) d v→Q v H'
   | .error _=>True):∀ x dx,H x=none→H dx=none→dx≠x→spE X.K X.mg n m (.ref x::vs) (upd (upd H dx (.own x)) x (.ins Ca dx [])) (fun v H2=>v=.non∧Q (.ref x) H2) E0:=by
 intro x dx hx hdx ne
 obtain⟨t1,t2,t3⟩:=R.make (c:=c) hm hx hdx ne
 have hob:Rep (addR ρ Ω.length x) X.K (hid (upd (upd H dx (.own x)) x (.ins Ca dx [])) (fob (un F (addS S x dx)) σ O)) (.obj Ω.length) (.ref x):=rep_obj.mpr ⟨x,by unfold addR;rw[if_pos rfl],rfl⟩
 unfold jqa at hf
 rcases MS.b_inv hf with ⟨d,Ω1,e1,hf⟩|⟨y,e1,rfl⟩
 ·refine jk8 t1 (ar _ _ _ e1) (Reps.cons hob ((hr.rho t2).mono t3)) e1 ?_
  intro v ρ2 S2 H2 R2 l2 v2 r2
  cases d with
  | non =>
   cases hf
   exact⟨rep_non.mp r2,k (.ref x) ρ2 S2 H2 R2 (t2.trans l2) (t3.trans v2) ((hob.rho l2).mono v2)⟩
  | _=>cases hf
 ·exact jk8 t1 (ar _ _ _ e1) (Reps.cons hob ((hr.rho t2).mono t3)) e1 trivial
theorem jqe{m:List D→MS D}(C:IniE X.prog X.w X.K X.mg X.base k c n m)(hr:Room (k+1) X.A)(ha:MA X O (e::es) fl)(hg:autoParam (Gl X c) zau2._auto_1)(hdb:autoParam ((c == ("__debug__":Str))=false) zau1._auto_1)(he:autoParam (starEach (e::es) X.env=(false,eval e X.env)::starEach es X.env) zau2._auto_1)
  (hpl:autoParam ((backTo pos (starEach es X.env)).any (·.1)=false) zau2._auto_1):ME X O (.Call (.Name c p) (e::es) [] pos) (jnz c m fl):=by
 obtain⟨Ca,f,fd,ps,hl,hm,hM,hb,G⟩:=C.ex
 rintro pins s σ H Q I ⟨ρ₀,S₀,H₀,F,ρ,S,δ,Ω,R,r,Ω',hf,k⟩
 refine jwo hM G hr hg hm hb .nil (fun _ _ _ _ _ _ _ z=>z.elim) ha hdb he hpl pins s σ H Q I (E:=E0) ?_
 rcases MS.b_inv hf with ⟨ds,Ω1,e1,hf⟩|⟨y,e1,rfl⟩
 ·refine⟨ρ₀,S₀,H₀,F,ρ,S,δ,Ω,R,.ok ds,Ω1,e1,fun vs ρ1 S1 H1 R1 l1 v1 r1=>?_⟩
  try dsimp only
  rw[List.append_nil]
  refine jv2 (f:=f) hm C.ar R1 r1 hf ?_
  cases r with
  | error y=>trivial
  | ok d=>exact fun v ρ2 S2 H2 R2 l2 v2 r2=>k v ρ2 S2 H2 R2 (l1.trans l2) (v1.trans v2) r2
 ·exact⟨ρ₀,S₀,H₀,F,ρ,S,δ,Ω,R,.error y,_,e1,trivial⟩
end
inductive tEI(K:PySem.W.Frag)(mg:Str→Option Value)(O:List Nat)(f:DSt→MS (List D))(σ:St)(H:Hp)(Rk:It→Hp→Prop):Prop
 | mk (ρ₀:Rho) (S₀:Addr→Bool) (H₀:Hp) (F:Addr→Bool) (ρ:Rho) (S:Addr→Bool) (δ:DSt) (Ω:Sto) (R:RM ρ₀ S₀ H₀ F K mg O ρ S H σ δ Ω) (r:Except XD (List D)) (Ω':Sto) (hf:f δ Ω=some (r,Ω')) (k:match (generalizing:=false) r with
  | .ok ds=>∀ J ρ' S' H',RM ρ₀ S₀ H₀ F K mg O ρ' S' H' σ δ Ω'→RLe ρ ρ'→Same (hid H (fob (un F S) σ O)) (hid H' (fob (un F S') σ O))→ItD ρ' K J ds (hid H' (fob (un F S') σ O))→Rk J H'
  | .error _=>True)
noncomputable def MI(X:Cx)(O:List Nat)(tg iter:Expr)(f:DSt→MS (List D)):Prop:=PI X tg iter (tEI X.K X.mg O f)
noncomputable def mSeq(f:DSt→MS D):DSt→MS (List D):=fun δ=>(f δ).b fun d=>MS.o (seqD d)
section
variable {X:Cx}{O O' B:List Nat}{a b c e o iter tg:Expr}{es:List Expr}{fa fb fo fv:DSt→MS D}{fi:DSt→MS (List D)}{pos:Pos}{st:Stmt}{g:DSt→MS Out}{tc:DSt→MS Bool}{f:Str}{cs:List Str}
theorem jlz{f:DSt→M (List D)}(h:DI X O E0 tg iter f):MI X O tg iter (lF f):=by
 rintro pins s σ H Q I ⟨ρ₀,S₀,H₀,F,ρ,S,δ,Ω,R,r,Ω',hf,k⟩
 obtain⟨hg,rfl⟩:=MS.l_inv hf
 refine h pins s σ H Q I ⟨ρ,_,un F S,δ,r,R.rs,hg,?_⟩
 cases r with
 | ok d=>exact fun J H' s' it=>k J ρ S H' (R.mono s') (RLe.refl _) (jaf s') it
 | error x=>exact fun c dx H' _ z=>z.elim
theorem jy9(h:ME X O iter fa):MI X O tg iter (mSeq fa):=by
 rintro pins s σ H Q I ⟨ρ₀,S₀,H₀,F,ρ,S,δ,Ω,R,r,Ω',hf,k⟩
 refine jun h pins s σ H Q I ?_
 rcases MS.b_inv hf with ⟨d,Ω1,e1,hf⟩|⟨x,e1,rfl⟩
 ·refine⟨ρ₀,S₀,H₀,F,ρ,S,δ,Ω,R,.ok d,Ω1,e1,fun v ρ1 S1 H1 R1 l1 v1 r1=>?_⟩
  obtain⟨ds,hd,rfl,rfl⟩:=MS.o_inv hf
  cases d with
  | lst es =>
   cases hd
   obtain⟨q,xs,rfl,q2,q3⟩:=rep_lst.mp r1
   exact .inl ⟨q,rfl,⟨xs,jc1 jan q2⟩,k _ ρ1 S1 H1 R1 l1 v1 (juc q2 q3)⟩
  | tup es =>
   cases hd
   obtain⟨q,xs,rfl,q2,q3⟩:=rep_tup.mp r1
   exact .inr ⟨q,rfl,⟨xs,jcy jan q2⟩,k _ ρ1 S1 H1 R1 l1 v1 (jud q2 q3)⟩
  | _=>cases hd
 ·exact⟨ρ₀,S₀,H₀,F,ρ,S,δ,Ω,R,.error x,_,e1,trivial⟩
theorem jr7{cs:List Str}{f:Str}{x d:D}{δ:DSt}{Ω Ω':Sto}{r:Except XD Out}(h:((putO cs f x d).b fun _=>MS.p (.nx δ)) Ω=some (r,Ω')):∃ i cl fs,x=.obj i∧Ω[i]? = some (.ins cl fs)∧cs.contains cl=true∧fs.length<1000∧r=.ok (.nx δ)∧Ω'=Ω.set i (.ins cl (putD f d fs)):=by
 unfold MS.b putO at h
 cases x with
 | obj i =>
  dsimp only at h
  cases hi:Ω[i]? with
  | none=>rw[hi] at h;cases h
  | some so =>
   rw[hi] at h
   cases so with
   | lst _=>cases h
   | tab _ _ _ _=>cases h
   | dct _=>cases h
   | ins cl fs =>
    dsimp only at h
    by_cases hcl:(cs.contains cl&&decide (fs.length<1000))=true
    ·rw[if_pos hcl] at h
     cases h
     rw[Bool.and_eq_true,decide_eq_true_eq] at hcl
     exact⟨i,cl,fs,rfl,hi,hcl.1,hcl.2,rfl,rfl⟩
    ·rw[if_neg hcl] at h;cases h
 | _=>cases h
theorem jqg{pos':Pos}(hc:ju1 X cs f)(ho:ME X O o fo)(hv:ME X O e fv)(hs:autoParam (swapsWith e (some (.Attribute o f pos')) pos.line X.env=pure false) zau2._auto_1):MSt X O O B (.Assign [.Attribute o f pos'] e pos) (ePut cs f fo fv):=by
 rintro pins s σ H Dn I ⟨ρ₀,S₀,H₀,F,ρ,S,δ,Ω,R,r,Ω',hf,k⟩
 refine jz0 ho hv hs pins s σ H Dn I ?_
 rcases MS.b_inv hf with ⟨d,Ω1,e1,hf⟩|⟨x,e1,rfl⟩
 ·refine⟨ρ₀,S₀,H₀,F,ρ,S,δ,Ω,R,.ok d,Ω1,e1,fun v ρ1 S1 H1 R1 l1 v1 r1=>?_⟩
  rcases MS.b_inv hf with ⟨x,Ω2,e2,hf⟩|⟨x,e2,rfl⟩
  ·refine⟨ρ₀,S₀,H₀,F,ρ1,S1,δ,Ω1,R1,.ok x,Ω2,e2,fun u ρ2 S2 H2 R2 l2 v2 r2=>?_⟩
   obtain⟨i,cl,fs,rfl,hi,hcl,hlt,rfl,rfl⟩:=jr7 hf
   obtain⟨ad,q1,q2⟩:=rep_obj.mp r2
   obtain⟨ad',p1,p2,C,dx,vfs,p3,p4,p5,p6,p7⟩:=R2.sto.ats i _ hi
   rw[q1] at p1;cases p1
   obtain⟨g1,g2⟩:=hc cl (List.contains_iff_mem.mp hcl) C p3
   have r1':=(r1.rho l2).mono v2
   obtain⟨t1,t2⟩:=R2.put (f:=f) hi q1 p2 p3 p4 p5 p6 p7 r1'
   exact⟨ad,C,dx,vfs,q2,p4,g1,g2,by rw[p7.length];exact hlt,k ρ2 S2 σ _ t1 (l1.trans l2) (by rw[t2];exact v1.trans v2)⟩
  ·exact⟨ρ₀,S₀,H₀,F,ρ1,S1,δ,Ω1,R1,.error x,_,e2,trivial⟩
 ·exact⟨ρ₀,S₀,H₀,F,ρ,S,δ,Ω,R,.error x,_,e1,trivial⟩
theorem jqh{body:List Stmt}{h:D→DSt→Option DSt}(hp:PassesOwn (model X.prog X.w) X.A X.env X.xe)(hc:X.calm=true)(hi:MI X O tg iter fi)(hg:DG X O tg h)(hb:MSs X O O O body g)
  (hs:autoParam (∀ x,foldedSetIterable iter X.env x=pure x) zau4._auto_1):MSt X O O B (.For tg iter body [] pos) (eFor fi h g):=by
 rintro pins s σ H Dn I ⟨ρ₀,S₀,H₀,F,ρ,S,δ,Ω,R,r,Ω',hgf,k⟩
 refine jq1 hp hc hi hg hb hs pins s σ H Dn I ?_
 rcases MS.b_inv hgf with ⟨ds,Ω1,e1,hgf⟩|⟨y,e1,rfl⟩
 ·refine⟨ρ₀,S₀,H₀,F,ρ,S,δ,Ω,R,.ok ds,Ω1,e1,fun J ρ1 S1 H1 R1 l1 v1 it=>?_⟩
  refine⟨fun i m σ' H'=>m=ds.length-i∧i≤ds.length∧∃ ρ' S' δ' Ω2,RM ρ₀ S₀ H₀ F X.K X.mg O ρ' S' H' σ' δ' Ω2∧RLe ρ1 ρ'∧Same (hid H1 (fob (un F S1) σ O)) (hid H' (fob (un F S') σ' O))∧forE g h (ds.drop i) δ' Ω2=some (r,Ω'),
   ⟨ds.length,by simp,Nat.zero_le _,ρ1,S1,δ,Ω1,R1,RLe.refl _,Same.refl _,hgf⟩,?_⟩
  rintro i m σ' H' ⟨rfl,hil,ρ',S',δ',Ω2,R',l',f',hr⟩
  obtain⟨j1,j2⟩:=it H' (fob (un F S') σ' O) i f' (fun p hp=>R'.fresh hp)
  by_cases hlt:i<ds.length
  ·obtain⟨go,yld⟩:=j1 hlt
   refine .inr ⟨go,fun σ2 H2=>∃ ρ2 S2 δ2 Ω3,RM ρ₀ S₀ H₀ F X.K X.mg O ρ2 S2 H2 σ2 δ2 Ω3∧RLe ρ1 ρ2∧Same (hid H1 (fob (un F S1) σ O)) (hid H2 (fob (un F S2) σ2 O))∧forE g h (ds.drop (i+1)) δ2 Ω3=some (r,Ω'),fun σ2 H2 ⟨ρ2,S2,δ2,Ω3,a1,a2,a3,a4⟩=>⟨ds.length-(i+1),by omega,rfl,hlt,ρ2,S2,δ2,Ω3,a1,a2,a3,a4⟩,fun x H2 y=>?_⟩
   obtain⟨s2,d,hd,rd⟩:=yld x H2 y
   have hdr:ds.drop i=d::ds.drop (i+1):=by
    rw[List.drop_eq_getElem_cons hlt]
    have:ds[i]=d:=by rw[List.getElem?_eq_getElem hlt] at hd;exact Option.some.inj hd
    rw[this]
   rw[hdr] at hr
   unfold forE at hr
   cases e2:h d δ' with
   | none=>rw[e2] at hr;cases hr
   | some δ1 =>
    rw[e2] at hr
    dsimp only at hr
    have R2:=R'.mono s2
    have f2:Same (hid H1 (fob (un F S1) σ O)) (hid H2 (fob (un F S') σ' O)):=f'.trans (jaf s2)
    refine⟨ρ',_,un F S',δ',d,δ1,R2.rs,rd.rho l',e2,fun σ3 ef R3=>?_⟩
    have R3':RM ρ₀ S₀ H₀ F X.K X.mg O ρ' S' H2 σ3 δ1 Ω2:=R2.next R3 (by rw[ef];exact Same.refl _)
    rcases MS.b_inv hr with ⟨o,Ω3,e3,hr⟩|⟨y,e3,rfl⟩
    ·refine⟨ρ₀,S₀,H₀,F,ρ',S',δ1,Ω2,R3',.ok o,Ω3,e3,?_⟩
     rw[ef]
     cases o with
     | nx δ4=>exact fun ρ4 S4 σ4 H4 R4 l4 v4=>⟨ρ4,S4,δ4,Ω3,R4,l'.trans l4,f2.trans v4,hr⟩
     | ct δ4=>exact fun ρ4 S4 σ4 H4 R4 l4 v4=>⟨ρ4,S4,δ4,Ω3,R4,l'.trans l4,f2.trans v4,hr⟩
     | bk δ4=>cases hr;exact fun ρ4 S4 σ4 H4 R4 l4 v4=>k ρ4 S4 σ4 H4 R4 (l1.trans (l'.trans l4)) (v1.trans (f2.trans v4))
     | rt v=>cases hr;exact k
    ·exact⟨ρ₀,S₀,H₀,F,ρ',S',δ1,Ω2,R3',.error y,_,e3,trivial⟩
  ·have ei:i=ds.length:=by omega
   subst ei
   rw[List.drop_length] at hr
   cases hr
   exact .inl ⟨j2 rfl,k ρ' S' σ' H' R' (l1.trans l') (v1.trans f')⟩
 ·exact⟨ρ₀,S₀,H₀,F,ρ,S,δ,Ω,R,.error y,_,e1,trivial⟩
theorem jm3{c:Expr}{body:List Stmt}{fuel:Nat}(hp:PassesOwn (model X.prog X.w) X.A X.env X.xe)(hc:MT X O c tc)(hb:MSs X O O O body g):MSt X O O B (.While c body [] pos) (jdl tc g fuel):=by
 rintro pins s σ H Dn I ⟨ρ₀,S₀,H₀,F,ρ,S,δ,Ω,R,r,Ω',hg,k⟩
 refine jtl hp hc hb pins s σ H Dn I ?_
 refine⟨fun m σ' H'=>∃ ρ' S' δ' Ω2,RM ρ₀ S₀ H₀ F X.K X.mg O ρ' S' H' σ' δ' Ω2∧RLe ρ ρ'∧Same (hid H (fob (un F S) σ O)) (hid H' (fob (un F S') σ' O))∧jdl tc g m δ' Ω2=some (r,Ω'),⟨fuel,ρ,S,δ,Ω,R,RLe.refl _,Same.refl _,hg⟩,?_⟩
 rintro m σ' H' ⟨ρ',S',δ',Ω2,R',l',f',hr⟩
 cases m with
 | zero=>cases hr
 | succ m =>
  unfold jdl at hr
  rcases MS.b_inv hr with ⟨z,Ω3,e1,hr⟩|⟨y,e1,rfl⟩
  ·refine⟨ρ₀,S₀,H₀,F,ρ',S',δ',Ω2,R',.ok z,Ω3,e1,fun ρ1 S1 H1 R1 l1 v1=>?_⟩
   have f1:=f'.trans v1
   have l2:=l'.trans l1
   cases z with
   | true =>
    rw[if_pos rfl] at hr
    refine iteT ⟨fun σ2 H2=>∃ ρ' S' δ' Ω2,RM ρ₀ S₀ H₀ F X.K X.mg O ρ' S' H2 σ2 δ' Ω2∧RLe ρ ρ'∧Same (hid H (fob (un F S) σ O)) (hid H2 (fob (un F S') σ2 O))∧jdl tc g m δ' Ω2=some (r,Ω'),fun σ2 H2 q=>⟨m,Nat.lt_succ_self _,q⟩,?_⟩
    rcases MS.b_inv hr with ⟨o,Ω4,e3,hr⟩|⟨y,e3,rfl⟩
    ·refine⟨ρ₀,S₀,H₀,F,ρ1,S1,δ',Ω3,R1,.ok o,Ω4,e3,?_⟩
     cases o with
     | nx δ4=>exact fun ρ4 S4 σ4 H4 R4 l4 v4=>⟨ρ4,S4,δ4,Ω4,R4,l2.trans l4,f1.trans v4,hr⟩
     | ct δ4=>exact fun ρ4 S4 σ4 H4 R4 l4 v4=>⟨ρ4,S4,δ4,Ω4,R4,l2.trans l4,f1.trans v4,hr⟩
     | bk δ4=>cases hr;exact fun ρ4 S4 σ4 H4 R4 l4 v4=>k ρ4 S4 σ4 H4 R4 (l2.trans l4) (f1.trans v4)
     | rt v=>cases hr;exact k
    ·exact⟨ρ₀,S₀,H₀,F,ρ1,S1,δ',Ω3,R1,.error y,_,e3,trivial⟩
   | false =>
    rw[if_neg (by decide)] at hr
    cases hr
    exact iteF (k ρ1 S1 σ' H1 R1 l2 f1)
  ·exact⟨ρ₀,S₀,H₀,F,ρ',S',δ',Ω2,R',.error y,_,e1,trivial⟩
end
noncomputable def jd3(st:Stmt)(j:Nat):Stmt:=match st with
 | .ClassDef _ _ _ b _ _ _ _ _ _ _=>b.getD j (.Pass ⟨0,0,0,0⟩)
 | _=>.Pass ⟨0,0,0,0⟩
structure ClsAt(K:PySem.W.Frag)(mg:Str→Option Value)(c:Str)(fs:List Str):Prop where
 ok:∀ C,mg c=some (.ref C)→Cls K C∧∀ f∈fs,NoAttr K C f
section
variable {K:PySem.W.Frag}{mg:Str→Option Value}{h:Heap}{c x q:Str}{st:Stmt}{ps:List Str}{C f:Addr}{oc:Value}{od an:Option Addr}{osl:Array (Option Value)}{kV doc pm cdv ct:Value}
theorem jc3{fs:List Str}(X:K.In h)(G:h.Ns mainGlobals mg)(a:PySem.W.nsIn K mainGlobals c=some (some (.ref C)))(p1:PySem.W.plainGet K C Str.empty=true)(p2:PySem.W.hasDictIn K C=true)(p3:PySem.W.plainOver K C=true)
  (p4:PySem.W.findIn K (.ref C) "__setattr__"=some (some (.builtin "object.__setattr__"))) (n:∀ f∈fs,PySem.W.findIn K (.ref C) f=some none):ClsAt K mg c fs :=
 ⟨fun C' hC=>by rw[PySem.W.mg_of X G a] at hC;cases hC;exact⟨⟨p1,p2,p3,p4⟩,n⟩⟩
theorem ClsAt.is{X:Cx}{fs:List Str}(T:ClsAt X.K X.mg c fs){f:Str}(hf:f∈fs):ju1 X [c] f:=fun c' hc C hC=>by
 rw[List.mem_singleton] at hc
 subst hc
 exact⟨(T.ok C hC).1,(T.ok C hC).2 f hf⟩
theorem jds{fs:List Str}(X:K.In h)(G:h.Ns mainGlobals mg)(T:ClsAt K mg c fs)
  (hb:∀ (kV doc pm:Value) (an:Option Addr) (cdv ct:Value) (us:List Value),us.length=ps.length→bindArgs (PySem.W.fnOf x q (jay st) (jak st) (jab st) .none kV doc pm an cdv ct) ⟨us,[]⟩=pure (ps.zip us))
  (a:PySem.W.nsIn K mainGlobals c=some (some (.ref C))) (m1:PySem.W.findIn K (.ref C) x=some (some (.ref f))) (m2:PySem.W.isFn K (.ref f)=true)
  (l:K.lookup f=some ⟨oc,od,.func (PySem.W.fnOf x q (jay st) (jak st) (jab st) .none kV doc pm an cdv ct),osl⟩)
  (cd:PySem.W.codeIn K cdv q=true) (k:PySem.W.keepIn K (.ref f)=true):MetAt K mg c x q st ps:=by
 have F:=jpi (st:=st) l cd k
 have hm:=PySem.W.mg_of X G a
 exact⟨C,f,_,hm,(T.ok C hm).1,⟨m1,m2,k⟩,F,F.binds hb⟩
theorem jsi(X:K.In h)(G:h.Ns mainGlobals mg)
  (hb:∀ (kV doc pm:Value) (an:Option Addr) (cdv ct:Value) (us:List Value),us.length=ps.length→bindArgs (PySem.W.fnOf "__init__" q (jay st) (jak st) (jab st) .none kV doc pm an cdv ct) ⟨us,[]⟩=pure (ps.zip us))
  (a:PySem.W.nsIn K mainGlobals c=some (some (.ref C))) (i1:PySem.W.makesIn K C=true) (i2:PySem.W.findIn K (.ref C) "__init__"=some (some (.ref f))) (i3:PySem.W.isFn K (.ref f)=true) (i4:PySem.W.keepIn K (.ref C)=true)
  (l:K.lookup f=some ⟨oc,od,.func (PySem.W.fnOf "__init__" q (jay st) (jak st) (jab st) .none kV doc pm an cdv ct),osl⟩)
  (cd:PySem.W.codeIn K cdv q=true) (k:PySem.W.keepIn K (.ref f)=true):IniAt K mg c q st ps:=by
 have F:=jpi (st:=st) l cd k
 exact⟨C,f,_,PySem.W.mg_of X G a,⟨i1,i2,i3,i4⟩,F,F.binds hb⟩
end
noncomputable def mB(f:DSt→MS D):DSt→MS Bool:=fun δ=>(f δ).b fun d=>match d with
 | .bl k=>MS.p k
 | _=>fun _=>none
section
variable {X:Cx}{O:List Nat}{a b:Expr}{fa fb:DSt→MS D}{pos:Pos}
theorem jik{op:CmpOp}{g:D→D→Option D}{r:R2}(ho:OpR X (compareOp op) r)(hg:OpD X.K g r)(ha:ME X O a fa)(hb:ME X O b fb)(hm:behindInMarks op b=false):MT X O (.Compare a [op] [b] pos) (mB (m2 g fa fb)):=by
 rintro pins s σ H Q I ⟨ρ₀,S₀,H₀,F,ρ,S,δ,Ω,R,rr,Ω',hf,k⟩
 refine jjm ho ha hb hm pins s σ H Q I (jlu (r:=r) hg ?_)
 rcases MS.b_inv hf with ⟨x,Ω1,e1,hf⟩|⟨x,e1,rfl⟩
 ·cases x with
  | bl kk=>cases hf;exact⟨ρ₀,S₀,H₀,F,ρ,S,δ,Ω,R,.ok (.bl kk),_,e1,fun v ρ' S' H' R' l sm rv=>⟨kk,rep_bl.mp rv,k ρ' S' H' R' l sm⟩⟩
  | _=>cases hf
 ·exact⟨ρ₀,S₀,H₀,F,ρ,S,δ,Ω,R,.error x,Ω',e1,k⟩
end
noncomputable def spA(K:PySem.W.Frag)(n:Nat)(m:List D→MS D):Sp:=fun vs H Q E=>∀ mg,spE K mg n m vs H Q E
noncomputable def FUEL:Nat:=Classical.choose (⟨100000,rfl⟩:∃ n:Nat,n=100000)
theorem jlf:FUEL=100000:=Classical.choose_spec (⟨100000,rfl⟩:∃ n:Nat,n=100000)
section
variable {δ:DSt}{fa fb fc:DSt→M D}{fl:DSt→M (List D)}{g:D→D→Option D}{u:D→Option D}{k:List D→Option D}{ta tb:DSt→M Bool}{g1 g2:DSt→M Out}{m:List D→M D}{ki:List D→Option (List D)}{fi:DSt→M (List D)}{tg:D→DSt→Option DSt}
@[simp] theorem jnr(i:Nat):fVar i δ=M.o (δ[i]?).join:=rfl
@[simp] theorem e_C(d:D):fC d δ=M.p d:=rfl
@[simp] theorem e_2:f2 g fa fb δ=(fa δ).b fun x=>(fb δ).b fun y=>M.o (g x y):=rfl
@[simp] theorem e_1:f1 u fa δ=(fa δ).b fun x=>M.o (u x):=rfl
noncomputable def asB:Option D→M Bool
 | some (.bl b)=>M.p b
 | _=>none
@[simp] theorem jtz(b:Bool):asB (some (.bl b))=M.p b:=rfl
@[simp] theorem e_t2:t2 g fa fb δ=(fa δ).b fun x=>(fb δ).b fun y=>asB (g x y):=rfl
@[simp] theorem jyc:fNil δ=M.p []:=rfl
@[simp] theorem jpc:jae fa fl δ=(fa δ).b fun x=>(fl δ).b fun xs=>M.p (x::xs):=rfl
@[simp] theorem e_L:fL k fl δ=(fl δ).b fun xs=>M.o (k xs):=rfl
@[simp] theorem jt8:jeh m fl δ=(fl δ).b m:=rfl
@[simp] theorem jBl:gNot (.bl b)=some (.bl !b):=rfl
@[simp] theorem jyh:tNot ta δ=(ta δ).b fun x=>M.p !x:=rfl
@[simp] theorem jyg:tAnd ta tb δ=(ta δ).b fun x=>if x=true then tb δ else M.p false:=rfl
@[simp] theorem jBm:tOr ta tb δ=(ta δ).b fun x=>if x=true then M.p true else tb δ:=rfl
@[simp] theorem e_if:fIf ta fa fb δ=(ta δ).b fun x=>if x=true then fa δ else fb δ:=rfl
noncomputable def andB(b:D)(r:M D):M D:=match b with
 | .bl true=>r
 | .bl false=>M.p (.bl false)
 | _=>none
noncomputable def orB(b:D)(r:M D):M D:=match b with
 | .bl true=>M.p (.bl true)
 | .bl false=>r
 | _=>none
@[simp] theorem andB_t(r:M D):andB (.bl true) r=r:=rfl
@[simp] theorem andB_f(r:M D):andB (.bl false) r=M.p (.bl false):=rfl
@[simp] theorem orB_t(r:M D):orB (.bl true) r=M.p (.bl true):=rfl
@[simp] theorem orB_f(r:M D):orB (.bl false) r=r:=rfl
@[simp] theorem jBi:fAnd fa fb δ=(fa δ).b fun x=>andB x (fb δ):=rfl
@[simp] theorem e_or:fOr fa fb δ=(fa δ).b fun x=>orB x (fb δ):=rfl
@[simp] theorem jBn:tTru fa δ=(fa δ).b fun x=>M.o (truD x):=rfl
@[simp] theorem jAu(b:Bool):truD (.bl b)=some b:=rfl
@[simp] theorem jCu:truD .non=some false:=rfl
@[simp] theorem e_nx:gNx δ=M.p (.nx δ):=rfl
noncomputable def seqO(g2:DSt→M Out):Out→M Out
 | .nx δ'=>g2 δ'
 | o=>M.p o
@[simp] theorem jre(δ':DSt):seqO g2 (.nx δ')=g2 δ':=rfl
@[simp] theorem jw8(d:D):seqO g2 (.rt d)=M.p (.rt d):=rfl
@[simp] theorem jCg(δ':DSt):seqO g2 (.bk δ')=M.p (.bk δ'):=rfl
@[simp] theorem jCh(δ':DSt):seqO g2 (.ct δ')=M.p (.ct δ'):=rfl
@[simp] theorem jye:gSeq g1 g2 δ=(g1 δ).b (seqO g2):=by
 show (g1 δ).b _=_
 congr 1
@[simp] theorem jyf(i:Nat):gSet i fa δ=(fa δ).b fun d=>M.p (.nx (δ.set i (some d))):=rfl
@[simp] theorem jyd:gRet fa δ=(fa δ).b fun d=>M.p (.rt d):=rfl
@[simp] theorem e_drop:jBr fa δ=(fa δ).b fun _=>M.p (.nx δ):=rfl
@[simp] theorem jya:gIf ta g1 g2 δ=(ta δ).b fun b=>if b=true then g1 δ else g2 δ:=rfl
@[simp] theorem e_brk:gBrk δ=M.p (.bk δ):=rfl
@[simp] theorem e_cnt:gCnt δ=M.p (.ct δ):=rfl
noncomputable def appO(i:Nat)(δ:DSt)(d:D):Option D→M Out
 | some (.lst ds)=>if ds.length<sizeLine then M.p (.nx (δ.set i (some (.lst (ds++[d]))))) else none
 | _=>none
@[simp] theorem jBj(i:Nat):gApp i fa δ=(fa δ).b fun d=>appO i δ d (δ[i]?).join:=rfl
@[simp] theorem jx9:gFor fi tg g1 δ=(fi δ).b fun ds=>forD g1 tg ds δ:=rfl
@[simp] theorem jpd:jha ki fl δ=(fl δ).b fun ds=>M.o (ki ds):=rfl
@[simp] theorem jyb:jnv fa δ=(fa δ).b fun d=>M.o (seqD d):=rfl
@[simp] theorem e_yes:tYes δ=M.p true:=rfl
@[simp] theorem jr8(d:D):outD (.rt d)=M.p d:=rfl
@[simp] theorem jA9(δ:DSt):outD (.nx δ)=M.p .non:=rfl
theorem jpe(N:Nat)(x0 x1:D):mir 2 N g1 [x0,x1]=(g1 (some x0::some x1::List.replicate (N-2) none)).b outD:=rfl
@[simp] theorem b_none{α β:Type}(f:α→M β):M.b none f=none:=rfl
@[simp] theorem jlh{α β γ:Type}(m:M α)(f:α→M β)(h:β→M γ):(m.b f).b h=m.b fun a=>(f a).b h:=by
 cases m with
 | none=>rfl
 | some e=>cases e<;>rfl
@[simp] theorem jpb{own:Nat}{caps:List (Str×Nat)}{tc:DSt→M Bool}:jnt own caps fi tg tc fa δ=(fi δ).b fun ds=>M.o ((jbx tg tc fa ds (jbf own caps δ)).bind jcn):=rfl
end
@[simp] theorem lt_int(i j:Int):gLt (.int i) (.int j)=some (.bl (decide (i<j))):=rfl
@[simp] theorem le_int(i j:Int):gLe (.int i) (.int j)=some (.bl (decide (i≤j))):=rfl
@[simp] theorem gt_int(i j:Int):gGt (.int i) (.int j)=some (.bl (decide (j<i))):=rfl
@[simp] theorem jyn(i j:Int):gGe (.int i) (.int j)=some (.bl (decide (j≤i))):=rfl
@[simp] theorem add_int(i j:Int):gAdd (.int i) (.int j)=some (.int (i+j)):=rfl
@[simp] theorem sub_int(i j:Int):gSub (.int i) (.int j)=some (.int (i-j)):=rfl
@[simp] theorem jwe(i:Int):gNeg (.int i)=some (.int (-i)):=rfl
theorem jbp{i j:Int}(h:0<j):gMod (.int i) (.int j)=some (.int (i % j)):=if_pos h
noncomputable def Bt(k:Nat)(i:Int):Prop:=i.natAbs<2 ^ k
theorem Bt.mono{a b:Nat}{i:Int}(h:Bt a i)(hab:a≤b):Bt b i:=Nat.lt_of_lt_of_le h (Nat.pow_le_pow_right (by decide) hab)
theorem Bt.mul{a b:Nat}{i j:Int}(h:Bt a i)(k:Bt b j):Bt (a+b) (i*j):=by
 unfold Bt at *
 rw[Int.natAbs_mul,Nat.pow_add]
 exact Nat.mul_lt_mul'' h k
theorem Bt.add{a:Nat}{i j:Int}(h:Bt a i)(k:Bt a j):Bt (a+1) (i+j):=by
 unfold Bt at *
 rw[Nat.pow_succ]
 omega
theorem Bt.big{k:Nat}{i:Int}(h:Bt k i)(hk:k≤100000):jez i=true:=by
 have h':=Nat.lt_of_lt_of_le h (Nat.pow_le_pow_right (by decide:2 > 0) hk)
 rw[← jon] at h'
 unfold jez BIG
 rw[Bool.and_eq_true,decide_eq_true_eq,decide_eq_true_eq]
 omega
theorem jzc{a b:Nat}{i j:Int}(h:Bt a i)(k:Bt b j)(ha:autoParam (a≤100000) zau1._auto_1)(hb:autoParam (b≤100000) zau1._auto_1):gMul (.int i) (.int j)=some (.int (i*j)):=by
 have:(jez i&&jez j)=true:=by rw[h.big ha,k.big hb];rfl
 exact if_pos this
theorem jc4{i j:Int}(h:0<j)(h2:j<2 ^ 200):jcm (.int i) (.int j)=some (.int (i / j)):=by
 refine if_pos ⟨h,?_⟩
 unfold DIVB
 have:(2 ^ 200:Nat)≤2 ^ 9000:=Nat.pow_le_pow_right (by decide) (by decide)
 rw[← joo] at this
 omega
theorem atI_get{α:Type}{xs:List α}{j:Nat}{v:α}(h:xs[j]? = some v):atI xs (j:Int)=some v:=by
 have hj:=(List.getElem?_eq_some_iff.mp h).1
 unfold atI ixN
 rw[if_pos (by omega),if_pos (by omega)]
 simpa using h
@[simp] theorem ix_t(ds:List D)(i:Int):gIx (.tup ds) (.int i)=atI ds i:=rfl
@[simp] theorem ix_l(ds:List D)(i:Int):gIx (.lst ds) (.int i)=atI ds i:=rfl
@[simp] theorem at0{α:Type}(x:α)(xs:List α):atI (x::xs) 0=some x:=by
 have:=atI_get (xs:=x::xs) (j:=0) (v:=x) rfl
 simpa using this
@[simp] theorem at1{α:Type}(x y:α)(xs:List α):atI (x::y::xs) 1=some y:=by
 have:=atI_get (xs:=x::y::xs) (j:=1) (v:=y) rfl
 simpa using this
@[simp] theorem at2{α:Type}(x y z:α)(xs:List α):atI (x::y::z::xs) 2=some z:=by
 have:=atI_get (xs:=x::y::z::xs) (j:=2) (v:=z) rfl
 simpa using this
@[simp] theorem at3{α:Type}(x y z w:α)(xs:List α):atI (x::y::z::w::xs) 3=some w:=by
 have:=atI_get (xs:=x::y::z::w::xs) (j:=3) (v:=w) rfl
 simpa using this
@[simp] theorem jBz(ds:List D):kLen [.lst ds]=some (.int ds.length):=rfl
@[simp] theorem jB0(ds:List D):kLen [.tup ds]=some (.int ds.length):=rfl
@[simp] theorem jxi(ds:List D):kTuple [.lst ds]=some (.tup ds):=rfl
@[simp] theorem jy1(ds:List D):jBw [.lst ds]=some (.lst ds):=rfl
@[simp] theorem jz8(j:Int):jcu [.int j]=some (jbl 0 j.toNat):=rfl
@[simp] theorem jz9(i j:Int):jcu [.int i,.int j]=some (jbl i (j-i).toNat):=rfl
@[simp] theorem jyi(xs:List D):jfg [.lst xs]=some (jdv 0 xs):=rfl
@[simp] theorem jCi(ds:List D):seqD (.lst ds)=some ds:=rfl
@[simp] theorem jCj(ds:List D):seqD (.tup ds)=some ds:=rfl
@[simp] theorem kmin(i j:Int):kMin [.int i,.int j]=some (.int (if j<i then j else i)):=rfl
@[simp] theorem jBy(b:Bool):kInt [.bl b]=some (.int (if b then 1 else 0)):=rfl
@[simp] theorem jCv(x y:D):jeb [x,y]=some (.tup [x,y]):=rfl
@[simp] theorem jCw(x y z:D):jeb [x,y,z]=some (.tup [x,y,z]):=rfl
@[simp] theorem tupD4(x y z w:D):jeb [x,y,z,w]=some (.tup [x,y,z,w]):=rfl
@[simp] theorem jB1:jcn []=some (.lst []):=rfl
@[simp] theorem jB2(x:D):jcn [x]=some (.lst [x]):=rfl
@[simp] theorem jB3(x y:D):jcn [x,y]=some (.lst [x,y]):=rfl
@[simp] theorem jB4(x y z:D):jcn [x,y,z]=some (.lst [x,y,z]):=rfl
theorem jv1{ds:List D}(h:ds.length≤sizeLine):jcn ds=some (.lst ds):=if_pos h
@[simp] theorem jyj(i j:Int):gEq (.int i) (.int j)=some (.bl (i == j)):=rfl
@[simp] theorem jzg(i j:Int):gNe (.int i) (.int j)=some (.bl !(i == j)):=rfl
@[simp] theorem eq_bl(i j:Bool):gEq (.bl i) (.bl j)=some (.bl (i == j)):=rfl
@[simp] theorem jls(i:Int):kIsi [.int i,.ty "int"]=some (.bl true):=rfl
@[simp] theorem jkh(i:Int):kIsi [.int i,.ty "bool"]=some (.bl false):=rfl
@[simp] theorem jlr(i:Bool):kIsi [.bl i,.ty "bool"]=some (.bl true):=rfl
@[simp] theorem jsj(i:List D):kIsi [.tup i,.ty "tuple"]=some (.bl true):=rfl
theorem jrt:∀ (xs ys:List D),zipD xs ys=(xs.zip ys).map fun p=>.tup [p.1,p.2]
 | [],_=>by simp[zipD]
 | _::_,[]=>by simp[zipD]
 | x::xs,y::ys=>by simp[zipD,jrt xs ys]
theorem jpg{g:DSt→M Out}{tg:D→DSt→Option DSt}(I:List D→DSt→Prop)(h:∀ d ds δ,I (d::ds) δ→∃ δ1,tg d δ=some δ1∧∃ δ2,(g δ1=some (.ok (.nx δ2))∨g δ1=some (.ok (.ct δ2)))∧I ds δ2) :
  ∀ (ds:List D) (δ:DSt),I ds δ→∃ δ',forD g tg ds δ=some (.ok (.nx δ'))∧I [] δ'
 | [],δ,hi=>⟨δ,rfl,hi⟩
 | d::ds,δ,hi=>by
  obtain⟨δ1,e1,δ2,e2,i2⟩:=h d ds δ hi
  obtain⟨δ',e3,i3⟩:=jpg I h ds δ2 i2
  refine⟨δ',?_,i3⟩
  unfold forD
  rw[e1]
  dsimp only
  rcases e2 with e2|e2<;>(rw[e2];exact e3)
@[simp] theorem jBa(i:Nat)(d:D)(δ:DSt):gName i d δ=some (δ.set i (some d)):=rfl
@[simp] theorem jBb(i j:Nat)(x y:D)(δ:DSt):jcc i j (.tup [x,y]) δ=some ((δ.set i (some x)).set j (some y)):=rfl
noncomputable def getI:M D→Int
 | some (.ok (.int i))=>i
 | _=>0
theorem jpk{m:M D}{i:Int}(h:m=some (.ok (.int i))):m=some (.ok (.int (getI m))):=by rw[h];rfl
theorem jvn{g:DSt→M Out}{tg:D→DSt→Option DSt}(ds:List D)(I:Nat→DSt→Prop)
  (h:∀ (j:Nat) (hj:j<ds.length) (δ:DSt),I j δ→∃ δ1,tg ds[j] δ=some δ1∧∃ δ2,(g δ1=some (.ok (.nx δ2))∨g δ1=some (.ok (.ct δ2)))∧I (j+1) δ2) (δ:DSt) (h0:I 0 δ) :
  ∃ δ',forD g tg ds δ=some (.ok (.nx δ'))∧I ds.length δ':=by
 obtain⟨δ',e,j,hd,hj,hi⟩:=jpg (g:=g) (tg:=tg) (fun rem δ=>∃ j,rem=ds.drop j∧j≤ds.length∧I j δ) (fun d rem δ ⟨j,hr,hj,hi⟩=>by
  have hlt:j<ds.length:=by
   by_cases q:j<ds.length
   ·exact q
   ·rw[List.drop_eq_nil_of_le (by omega)] at hr;cases hr
  rw[List.drop_eq_getElem_cons hlt] at hr
  obtain⟨rfl,rfl⟩:=List.cons.inj hr
  obtain⟨δ1,e1,δ2,e2,i2⟩:=h j hlt δ hi
  exact⟨δ1,e1,δ2,e2,j+1,rfl,hlt,i2⟩) ds δ ⟨0,rfl,Nat.zero_le _,h0⟩
 refine⟨δ',e,?_⟩
 have:j=ds.length:=by
  have:=congrArg List.length hd
  simp at this
  omega
 rw[← this];exact hi
@[simp] theorem jf3(lo:Int)(n:Nat):(jbl lo n).length=n:=by simp[jbl]
@[simp] theorem jn8(lo:Int)(n j:Nat)(h:j<(jbl lo n).length):(jbl lo n)[j]=.int (lo+j):=by simp[jbl]
theorem jn9(n:Nat)(F:D→D):(jbl 0 n).map F=(List.range n).map fun j=>F (.int (j:Nat)):=by
 unfold jbl
 rw[List.map_map]
 apply List.map_congr_left
 intro a _
 simp
section
variable {δ:DSt}{fa fb fc:DSt→M D}{fl:DSt→M (List D)}{g:D→D→Option D}{k:List D→Option D}{ta:DSt→M Bool}
@[simp] theorem jBk(i:Nat):gAug i g fa δ=(M.o (δ[i]?).join).b fun x=>(fa δ).b fun y=>(M.o (g x y)).b fun d=>M.p (.nx (δ.set i (some d))):=rfl
@[simp] theorem jlj(i j:Int):gCat (.int i) (.int j)=some (.int (i+j)):=rfl
theorem jva{x y:List D}(h:x.length+y.length≤sizeLine):gCat (.lst x) (.lst y)=some (.lst (x++y)):=if_pos h
theorem jji{a b:Nat}{i j:Int}(h:Bt a i)(k:Bt b j)(ha:autoParam (a≤100000) zau1._auto_1)(hb:autoParam (b≤100000) zau1._auto_1):jg8 (.int i) (.int j)=some (.int (i*j)):=jzc h k ha hb
theorem rep_flat{α:Type}(x:α):∀ n:Nat,(List.replicate n [x]).flatten=List.replicate n x
 | 0=>rfl
 | n+1=>by rw[List.replicate_succ,List.flatten_cons,rep_flat x n];rfl
@[simp] theorem e_asg(h:D→DSt→Option DSt):gAsg h fa δ=(fa δ).b fun d=>match h d δ with
 | some δ'=>M.p (.nx δ')
 | none=>none:=rfl
@[simp] theorem e_tup3(i j l:Nat)(x y z:D):jBs i j l (.tup [x,y,z]) δ=some (((δ.set i (some x)).set j (some y)).set l (some z)):=rfl
@[simp] theorem jvu(b:Bool):jBv [.bl b]=some (.int (if b then 1 else 0)):=rfl
theorem jou:∀ bs:List Bool,blsD (bs.map .bl)=some bs
 | []=>rfl
 | b::bs=>by rw[List.map_cons];unfold blsD;rw[jou bs];rfl
theorem ju4(bs:List Bool):kAll [.lst (bs.map .bl)]=some (.bl (bs.all id)):=by
 show (blsD (bs.map D.bl)).map (fun ns=>D.bl (ns.all id))=_
 rw[jou];rfl
theorem jj8{c:DSt}{fe:DSt→M D}{α:Type}{K:α→D×D}{F:α→D}(ps:List α)(x y:Option D)(h:∀ p∈ps,fe (some (K p).1::some (K p).2::c)=some (.ok (F p))):jbx (jcc 0 1) tYes fe (ps.map fun p=>.tup [(K p).1,(K p).2]) (x::y::c)=some (ps.map F):=by
 induction ps generalizing x y with
 | nil=>rfl
 | cons p ps ih =>
  rw[List.map_cons]
  unfold jbx
  have e1:jcc 0 1 (.tup [(K p).1,(K p).2]) (x::y::c)=some (some (K p).1::some (K p).2::c):=rfl
  rw[e1]
  dsimp only [tYes,M.p]
  rw[h p List.mem_cons_self]
  dsimp only
  rw[ih (some (K p).1) (some (K p).2) fun e he=>h e (List.mem_cons_of_mem _ he)]
  rfl
theorem jhz(as bs:List Int):zipD (as.map .int) (bs.map .int)=(as.zip bs).map fun p=>.tup [.int p.1,.int p.2]:=by
 rw[jrt,List.zip_map,List.map_map];rfl
end
noncomputable def ju7{α β:Type}(r:Option (Except XD α×Sto))(f:α→MS β):Option (Except XD β×Sto):=match r with
 | none=>none
 | some (.error x,Ω')=>some (.error x,Ω')
 | some (.ok a,Ω')=>f a Ω'
section
variable {α β:Type}{Ω Ω':Sto}{δ:DSt}{fa fb fo:DSt→MS D}{fl:DSt→MS (List D)}{ta:DSt→MS Bool}{g1 g2:DSt→MS Out}{g:D→D→Option D}
@[simp] theorem s_b(m:MS α)(f:α→MS β):(m.b f) Ω=ju7 (m Ω) f:=by
 unfold MS.b ju7
 cases m Ω with
 | none=>rfl
 | some p=>obtain⟨q,Ω1⟩:=p;cases q<;>rfl
@[simp] theorem je0(a:α)(f:α→MS β):ju7 (some (.ok a,Ω')) f=f a Ω':=rfl
@[simp] theorem s_p(a:α):MS.p a Ω=some (.ok a,Ω):=rfl
@[simp] theorem s_lp(a:α):MS.l (M.p a) Ω=some (.ok a,Ω):=rfl
@[simp] theorem s_lok(a:α):MS.l (some (.ok a):M α) Ω=some (.ok a,Ω):=rfl
@[simp] theorem s_o(a:α):MS.o (some a) Ω=some (.ok a,Ω):=rfl
@[simp] theorem s_lF(f:DSt→M α):lF f δ=MS.l (f δ):=rfl
@[simp] theorem s_get(cs:List Str)(f:Str):mGet cs f fa δ=(fa δ).b fun x=>getO cs f x:=rfl
@[simp] theorem jAg:jar fa fl δ=(fa δ).b fun x=>(fl δ).b fun xs=>MS.p (x::xs):=rfl
@[simp] theorem s_2:m2 g fa fb δ=(fa δ).b fun x=>(fb δ).b fun y=>MS.o (g x y):=rfl
@[simp] theorem s_L(k:List D→Option D):mL k fl δ=(fl δ).b fun xs=>MS.o (k xs):=rfl
@[simp] theorem jCb(m:List D→M D):jy4 m fl δ=(fl δ).b fun ds=>MS.l (m ds):=rfl
@[simp] theorem jAf(m:List D→MS D):jfa m fl δ=(fl δ).b m:=rfl
@[simp] theorem jCe(i:Nat):eSet i fa δ=(fa δ).b fun d=>MS.p (.nx (δ.set i (some d))):=rfl
@[simp] theorem jCd:eRet fa δ=(fa δ).b fun d=>MS.p (.rt d):=rfl
@[simp] theorem jAh:jff fa δ=(fa δ).b fun _=>MS.p (.nx δ):=rfl
@[simp] theorem s_put(cs:List Str)(f:Str):ePut cs f fo fa δ=(fa δ).b fun d=>(fo δ).b fun x=>(putO cs f x d).b fun _=>MS.p (.nx δ):=rfl
@[simp] theorem s_if:eIf ta g1 g2 δ=(ta δ).b fun b=>if b=true then g1 δ else g2 δ:=rfl
@[simp] theorem s_nx:eNx δ=MS.p (.nx δ):=rfl
@[simp] theorem jCc:mNot ta δ=(ta δ).b fun x=>MS.p !x:=rfl
@[simp] theorem jCf:mTru fa δ=(fa δ).b fun x=>MS.o (truD x):=rfl
noncomputable def asBS:D→MS Bool
 | .bl k=>MS.p k
 | _=>fun _=>none
@[simp] theorem jBf(k:Bool):asBS (.bl k)=MS.p k:=rfl
@[simp] theorem s_B:mB fa δ=(fa δ).b asBS:=by
 show (fa δ).b _=_
 congr 1
noncomputable def seqS(g2:DSt→MS Out):Out→MS Out
 | .nx δ'=>g2 δ'
 | o=>MS.p o
@[simp] theorem jw9(δ':DSt):seqS g2 (.nx δ')=g2 δ':=rfl
@[simp] theorem jxa(d:D):seqS g2 (.rt d)=MS.p (.rt d):=rfl
@[simp] theorem jw5:eSeq g1 g2 δ=(g1 δ).b (seqS g2):=by
 show (g1 δ).b _=_
 congr 1
@[simp] theorem jBd(d:D):outE (.rt d)=MS.p d:=rfl
@[simp] theorem jBc(δ:DSt):outE (.nx δ)=MS.p .non:=rfl
theorem jip(N:Nat)(x0:D):mirE 1 N g1 [x0]=(g1 (some x0::List.replicate (N-1) none)).b outE:=rfl
theorem jiq(N:Nat)(x0 x1:D):mirE 2 N g1 [x0,x1]=(g1 (some x0::some x1::List.replicate (N-2) none)).b outE:=rfl
theorem jAi(N:Nat)(x0 x1 x2:D):mirE 3 N g1 [x0,x1,x2]=(g1 (some x0::some x1::some x2::List.replicate (N-3) none)).b outE:=rfl
@[simp] theorem s_meth(c x:Str)(m:List D→MS D):jdh c x m fo fl δ=(fo δ).b fun o=>match o with
 | .obj i=>jn3 c x m i fl δ
 | _=>fun _=>none:=rfl
@[simp] theorem s_make(c:Str)(m:List D→MS D):jnz c m fl δ=(fl δ).b fun ds=>jqa c m ds:=rfl
@[simp] theorem jw4(fi:DSt→MS (List D))(tg:D→DSt→Option DSt):eFor fi tg g1 δ=(fi δ).b fun ds=>forE g1 tg ds δ:=rfl
end
section
variable {X:Cx}{O:List Nat}{E:XK}{b:Expr}{fb:DSt→M D}{pos:Pos}
theorem jt5(i:Nat){x:Str}{p:Pos}(ho:O.contains i=true)(hb:DE X O E b fb)(hN:autoParam (X.N[i]? = some x) zau2._auto_1)(hv:autoParam (Vis X.env.scope x) zau5._auto_1)
  (hd:autoParam ((x == ("__debug__":Str))=false) zau1._auto_1) (hcd:autoParam ((x == ("__classdict__":Str))=false) zau1._auto_1) (hs:autoParam (jgo b) zau6._auto_1):DE X O E (.Subscript (.Name x p) b pos) (f2 gIx (fVar i) fb):=by
 rintro pins s σ H Q I ⟨ρ,H₀,F,δ,r,R,hf,k⟩
 have ho':i∈O:=List.contains_iff_mem.mp ho
 obtain⟨l,xs,ds,q1,q2,q3,q4,q5⟩:=R.own i ho'
 refine jtf jbd (jm9 hN hv hd hcd) hb hs pins s σ H Q I ⟨.ref l,q2,?_⟩
 have e0:fVar i δ=some (.ok (.lst ds)):=by unfold fVar;rw[q1];rfl
 rcases M.b_inv hf with ⟨x,e1,hf⟩|⟨x,e1,rfl⟩
 ·rw[e0] at e1
  cases e1
  rcases M.b_inv hf with ⟨y,e2,hf⟩|⟨y,e2,rfl⟩
  ·refine⟨ρ,H₀,F,δ,.ok y,R,e2,fun v H2 s2 r2=>?_⟩
   obtain⟨d,hd,rfl⟩:=M.o_inv hf
   unfold gIx at hd
   split at hd
   ·rename_i z;cases z
    obtain⟨w,e,r⟩:=jjn q5 hd
    exact .inl ⟨l,xs,_,w,rfl,rep_int.mp r2,SqL.of (s2 _ _ q3),e,k w H2 s2 (r.mono (jaf s2))⟩
   ·rename_i z;cases z
   ·rename_i z;cases z
   ·cases hd
  ·exact⟨ρ,H₀,F,δ,.error y,R,e2,k⟩
 ·rw[e0] at e1;cases e1
end
theorem jq5(own:Nat)(caps:List (Str×Nat))(δ:DSt):jbf own caps δ=List.replicate own none++caps.map fun p=>(δ[p.2]?).join:=rfl
theorem jA8(xs ys:List D):jjv [.tup xs,.tup ys]=some (zipD xs ys):=rfl
theorem jA7(xs ys:List D):jjv [.tup xs,.lst ys]=some (zipD xs ys):=rfl
theorem jA6(xs ys:List D):jjv [.lst xs,.tup ys]=some (zipD xs ys):=rfl
theorem jA5(xs ys:List D):jjv [.lst xs,.lst ys]=some (zipD xs ys):=rfl
theorem jB5(i j:Bool):gNe (.bl i) (.bl j)=some (.bl !(i == j)):=rfl
theorem jl4{d:D}(h1:okD d=true)(h2:depD d≤20):gNe d d=some (.bl false):=by
 unfold gNe
 rw[if_pos (by rw[h1,decide_eq_true h2];rfl),ji9 d h1]
 rfl
theorem jfr{α:Type}{f:α→D}:∀ {xs:List α},(∀ x∈xs,okD (f x)=true)→okDs (xs.map f)=true
 | [],_=>by rw[List.map_nil];unfold okDs;rfl
 | x::xs,h=>by rw[List.map_cons];unfold okDs;rw[h x List.mem_cons_self,jfr fun y hy=>h y (List.mem_cons_of_mem _ hy)];rfl
theorem jeg{α:Type}{f:α→D}{k:Nat}:∀ {xs:List α},(∀ x∈xs,depD (f x)≤k)→depDs (xs.map f)≤k
 | [],_=>by rw[List.map_nil];unfold depDs;omega
 | x::xs,h=>by
  rw[List.map_cons];unfold depDs
  have h1:=h x List.mem_cons_self
  have h2:=jeg (f:=f) (k:=k) (xs:=xs) fun y hy=>h y (List.mem_cons_of_mem _ hy)
  omega
theorem jom{g1 g2:DSt→M Out}{δ δ':DSt}(h:g1 δ=some (.ok (.nx δ'))):gSeq g1 g2 δ=g2 δ':=by rw[jye,h,M.b_ok,jre]
theorem w_if{t:DSt→M Bool}{g1 g2:DSt→M Out}{δ:DSt}{b:Bool}(h:t δ=some (.ok b)):gIf t g1 g2 δ=if b=true then g1 δ else g2 δ:=by rw[jya,h,M.b_ok]
theorem jxo{t:DSt→M Bool}{g1:DSt→M Out}{δ:DSt}(h:t δ=some (.ok false)):gIf t g1 gNx δ=some (.ok (.nx δ)):=by rw[w_if h,if_neg (by decide)];rfl
theorem jA4{fa:DSt→M D}{δ:DSt}{d:D}(hd:fa δ=some (.ok d)):gRet fa δ=some (.ok (.rt d)):=by rw[jyd,hd,M.b_ok];rfl
theorem jrp{fa:DSt→M D}{δ:DSt}{d:D}(i:Nat)(hd:fa δ=some (.ok d)):gSet i fa δ=some (.ok (.nx (δ.set i (some d)))):=by rw[jyf,hd,M.b_ok];rfl
theorem jCz{fi:DSt→M (List D)}{tg:D→DSt→Option DSt}{g:DSt→M Out}{δ:DSt}{ds:List D}(h:fi δ=some (.ok ds)):gFor fi tg g δ=forD g tg ds δ:=by rw[jx9,h,M.b_ok]
theorem jug{ds:List D}(h:ds.length≤1000):jcn ds=some (.lst ds):=jv1 (Nat.le_trans h (by decide))
noncomputable def stp:=And.intro (@if_true.{1}) <| And.intro (@if_false.{1}) <| And.intro (@Bool.false_eq_true) <| And.intro (@jye) <| And.intro (@jyf) <| And.intro (@e_2) <| And.intro (@e_1) <| And.intro (@e_t2) <| And.intro (@jyd) <| And.intro (@jya) <| And.intro (@jx9) <| And.intro (@jpd) <| And.intro (@jyb) <| And.intro (@jpb) <| And.intro (@jt8) <| And.intro (@jpc) <| And.intro (@jnr) <| And.intro (@jyc) <| And.intro (@e_C) <| And.intro (@e_L) <| And.intro (@e_if) <| And.intro (@jBn) <| And.intro (@jyg) <| And.intro (@jBm) <| And.intro (@jyh) <| And.intro (@jBl) <| And.intro (@e_nx) <| And.intro (@jBk) <| And.intro (@jBj) <| And.intro (@jBi) <| And.intro (@e_or) <| And.intro (@M.o_some) <| And.intro (@M.b_p) <| And.intro (@M.b_ok) <| And.intro (@jlh) <| And.intro (@jre) <| And.intro (@jw8) <| And.intro (@jr8) <| And.intro (@ix_t) <| And.intro (@ix_l) <| And.intro (@at0) <| And.intro (@at1) <| And.intro (@at2) <| And.intro (@at3) <| And.intro (@jCi) <| And.intro (@jCj) <| And.intro (@jxi) <| And.intro (@jy1) <| And.intro (@jBz) <| And.intro (@jB0) <| And.intro (@jCv) <| And.intro (@jCw) <| And.intro (@jB1) <| And.intro (@jB2) <| And.intro (@jB3) <| And.intro (@jB4) <| And.intro (@jlj) <| And.intro (@sub_int) <| And.intro (@jwe) <| And.intro (@jyj) <| And.intro (@jzg) <| And.intro (@jB5) <| And.intro (@lt_int) <| And.intro (@le_int) <| And.intro (@gt_int) <| And.intro (@jyn) <| And.intro (@jtz) <| And.intro (@jAu) <| And.intro (@jz8) <| And.intro (@jz9) <| And.intro (@Int.toNat_natCast) <| And.intro (@jhz) <| And.intro (@jq5) <| And.intro (@jA8) <| And.intro (@jA7) <| And.intro (@jA6) <| And.intro (@jA5) <| And.intro (@jls) <| And.intro (@jkh) <| And.intro (@jlr) <| And.intro (@jvu) <| And.intro (@List.replicate_succ.{0}) <| And.intro (@List.replicate_zero.{0}) <| And.intro (@List.set_cons_succ.{0}) <| And.intro (@List.set_cons_zero.{0}) <| And.intro (@List.getElem?_cons_zero.{0}) <| And.intro (@List.getElem?_cons_succ.{0}) <| And.intro (@Option.join_some.{0}) <| And.intro (@List.map_nil.{0,0}) <| And.intro (@List.map_cons.{0,0}) <| And.intro (@List.append_nil.{0}) <| And.intro (@List.cons_append.{0}) <| And.intro (@List.nil_append.{0}) <| And.intro (@Option.bind_some.{0,0}) <| True.intro
theorem jxr{α:Type}(xs:List α)(f:α→Bool):kAll [.lst (xs.map fun x=>.bl (f x))]=some (.bl (xs.all f)):=by
 have:(xs.map fun x=>D.bl (f x))=(xs.map f).map .bl:=by rw[List.map_map];rfl
 rw[this,ju4,List.all_map];rfl
end DL
namespace L2
open PySem PySem.Spec PyProof.Rows
section
variable {prog:Program}{w:World}{A:Around}{E:Value→Shared→Prop}{s:Shared}{I:Addr}{fp wr:List Addr}{G:Array GenState→Array GenState→Prop}{n:Nat}{P:Nat→Value→Prop}{St:Nat→Shared→Prop}
end
end L2
namespace DL
open PySem PySem.Spec L2
section
variable {X:Cx}{O:List Nat}{E:XK}{e o:Expr}{fo fe:DSt→M D}{pos p:Pos}
end
end DL
namespace L2
open PySem PySem.Spec PyProof.Rows
section
variable {X:Cx}
theorem jo4{elt tg iter:Expr}{ifs:List Expr}{scope:Scope}{pos p0:Pos}{own:List Str}{caps:List (Str×Nat)}{wi:TI}{g:TG}{tc:TT}{te:TE}{use:Option (Value→Sem Unit)}{QS:Value→Shared→Prop}(hc:X.calm=true)(ck:CapsOk X scope caps)
  (hi:PI X tg iter wi) (hg:∀ C s0 H0 ex,PG (jax X scope (own++caps.map (·.1)) C s0 H0 ex) tg g) (ht:∀ C s0 H0 ex,PC0 (jax X scope (own++caps.map (·.1)) C s0 H0 ex) ifs tc)
  (he:∀ C s0 H0 ex,PE (jax X scope (own++caps.map (·.1)) C s0 H0 ex) elt te) (hs:∀ x,foldedSetIterable iter X.env x=pure x)
  {pins:List (Addr×Obj)} {s:Shared} {σ:St} {H:Hp} {Q:VK} (I:Inv X pins σ H s) (h:jrg own.length caps wi g tc te σ H Q)
  (fin:∀ D H5 C s6 r,Inv X pins σ H5 s6→FpOk X pins H5 C→(∃ m,s6.heap.Ns C m)→Q (.ref D) H5→compPost (model X.prog X.w) X.A X.xe use QS (.ref D) C (.ok r) s6) :
  wpAny (model X.prog X.w) X.A (comprehension (.ListComp elt [⟨tg,iter,ifs,0⟩] scope pos) scope X.env p0 (newList []) false (eval iter X.env) use) QS X.xe s:=by
 have hcl:closureFor scope X.env=pure (clOf X.env.cells scope.names []):=jid fun p hp hf=>I.ok.has p.1 (ck.fre p hp hf)
 refine wpAny_comprehension_free rfl hs hcl ck.kind ck.loc (thn (hi pins s σ H _ I h) fun v s1 h1=>thn h1 fun itv s2 h2=>?_)
 obtain⟨it,fp,tn,J,H2,e,I2,T,st2,f2,hw⟩:=h2
 subst e
 obtain⟨W,⟨m0,w0⟩,turn⟩:=hw s2.heap.objs.size (I2.hok.fresh (Nat.le_refl _))
 refine wpAny_newObj_type ?_
 have hD:=I2.hok.fresh (Nat.le_refl s2.heap.objs.size)
 have I3:Inv X pins σ (upd H2 s2.heap.objs.size (.lst [])) { s2 with heap:=s2.heap.push { cls:=.type "list",data:=.seq ([]:List Value).toArray } } :=
  I2.laid (t':=s2.toks) (fun b u e=>Heap.get?_push_of_some _ e) (Nat.le_refl _) ⟨Nat.zero_le _,[],0,.nil,Heap.get?_push_size _ rfl⟩
 have hlt:∀ b∈fp,b<s2.heap.objs.size:=fun b hb=>by obtain⟨o,e,_⟩:=T.obj _ _ st2 b hb;exact Heap.lt_size e
 have f3:∀ b∈fp,FpOk X pins (upd H2 s2.heap.objs.size (.lst [])) b:=fun b hb=>⟨by rw[jaj (Nat.ne_of_lt (hlt b hb))];exact (f2 b hb).1,(f2 b hb).2⟩
 have hlt3:∀ b∈fp,b<(s2.heap.push { cls:=.type "list",data:=.seq ([]:List Value).toArray }).objs.size:=fun b hb=>by rw[Heap.size_push];exact Nat.lt_succ_of_lt (hlt b hb)
 refine wpAny_newFunctionEnv ck.nocell (by intro y hy;simp at hy) (fun h' hns hsb=>?_) ck.kind
 generalize hS3:({ s2 with heap:=s2.heap.push { cls:=.type "list",data:=.seq ([]:List Value).toArray } }:Shared)=S3 at I3 hns hsb ⊢
 have hlt3':∀ b∈fp,b<S3.heap.objs.size:=by rw[← hS3];exact hlt3
 have I4:=jmw (own:=own) (t':=S3.toks+([]:List (Str×Value)).length) I3 ck f3 hlt3' hns hsb
 have st4:tn 0 h':=T.keep _ _ _ st2 fun b hb o e=>hsb.extBut b o (Nat.ne_of_lt (hlt3' b hb)) (Heap.get?_push_of_some _ (by rw[← hS3];exact Heap.get?_push_of_some _ e))
 have hsz:s2.heap.objs.size<S3.heap.objs.size:=by rw[← hS3];show _<(Heap.push _ _).objs.size;rw[Heap.size_push];exact Nat.lt_succ_self _
 generalize hCC:S3.heap.objs.size=C at I4 hsb hns hsz
 have loop:codeAny (model X.prog X.w) X.A (.compLoop (.ListComp elt [⟨tg,iter,ifs,0⟩] scope pos) 0 (.ref it) (.ref s2.heap.objs.size) (compEnvC scope (clOf X.env.cells scope.names []) C X.env))
   (compPost (model X.prog X.w) X.A X.xe use QS (.ref s2.heap.objs.size) C) { S3 with heap:=h',toks:=S3.toks+([]:List (Str×Value)).length }:=by
  have xf:∀ {H':Hp},(∀ b∈fp,H' b=none)→∀ b∈fp,FpOk (jax X scope (own++caps.map (·.1)) C S3 (upd H2 s2.heap.objs.size (.lst [])) fp) [] H' b:=fun hn b hb=>by
   refine⟨hn b hb,?_,?_,.inl hb,fun x c e=>(I4.ok.exf b hb).2 x c e,fun p hp=>absurd (show p∈([]:List (Addr×Obj)) from hp) (by simp)⟩
   ·exact (I4.ok.exf b hb).1
   ·exact I4.ok.exfs b hb
  refine jf5 (fun n s'=>∃ i σ' H',Inv (jax X scope (own++caps.map (·.1)) C S3 (upd H2 s2.heap.objs.size (.lst [])) fp) [] σ' H' s'∧tn i s'.heap∧(∀ b∈fp,H' b=none)∧W i n σ' H') ?_ m0
   ⟨0,_,_,I4,st4,fun b hb=>(f3 b hb).1,w0⟩
  rintro n s5 ⟨i,σ5,H5,I5,st5,fr5,w5⟩
  rcases turn i n σ5 H5 w5 with ⟨stop,qn⟩|⟨go,N,hN,step⟩
  ·refine thn (T.done (jax X scope (own++caps.map (·.1)) C S3 (upd H2 s2.heap.objs.size (.lst [])) fp) rfl rfl rfl hc i [] s5 σ5 H5 NoX I5 (xf fr5) st5 stop) fun r s6 hzz=>?_
   obtain⟨hr,I6⟩:=hzz
   subst hr
   obtain⟨m6,n6,_⟩:=id I6.loc
   have C3:S3.heap.objs.size≤C:=Nat.le_of_eq hCC
   have I7:Inv X pins σ H5 s6:=I3.call' (s':=s6) (ch:=fp) I6.os (ju0 I6.base C3 (Heap.SameBut.refl _ _)) I6.hok I6.bare fun b hb=>by
    obtain⟨_,q1,_,q3,q4,q5⟩:=f3 b hb
    exact⟨q3,q1,q4,q5⟩
   exact fin _ _ _ _ _ I7 (I3.fpOk C3 I6.free) ⟨m6,n6⟩ qn
  ·refine thn (T.item (jax X scope (own++caps.map (·.1)) C S3 (upd H2 s2.heap.objs.size (.lst [])) fp) rfl rfl rfl hc i [] s5 σ5 H5 NoX I5 (xf fr5) st5 go) fun r s6 hzz=>?_
   obtain⟨u,hr,h6⟩:=hzz
   subst hr
   refine thn h6 fun _ s7 hzz=>?_
   obtain⟨x,H7,I7,r7,y7,st7,fr7⟩:=hzz
   have I7':=I7.pinned (xf fr7) (T.obj _ _ st7)
   refine thn (hg _ _ _ _ _ s7 σ5 H7 x u _ I7' r7 (step x H7 y7)) fun _ s8 hzz=>?_
   obtain⟨σ8,H8,I8,q8⟩:=hzz
   refine thn (ht _ _ _ _ _ s8 σ8 H8 _ I8 q8) fun ok s9 hzz=>?_
   obtain⟨H9,I9,q9⟩:=hzz
   have again:∀ {s':Shared} {σ':St} {H':Hp},Inv (jax X scope (own++caps.map (·.1)) C S3 (upd H2 s2.heap.objs.size (.lst [])) fp) ([]++jio fp s7.heap) σ' H' s'→N σ' H'→∃ m,m<n∧∃ i σ' H',Inv (jax X scope (own++caps.map (·.1)) C S3 (upd H2 s2.heap.objs.size (.lst [])) fp) [] σ' H' s'∧tn i s'.heap∧(∀ b∈fp,H' b=none)∧W i m σ' H':=fun {s' σ' H'} Ia na=>by
    obtain⟨m',hm,wa⟩:=hN σ' H' na
    refine⟨m',hm,i+1,σ',H',Ia.unpinned,T.keep _ _ _ st7 fun b hb o e=>(Ia.pin (b,o) (List.mem_append_right _ (List.mem_append_right _ (jdc hb e)))).1,fun b hb=>?_,wa⟩
    obtain⟨o,e,d⟩:=T.obj _ _ st7 b hb
    exact (Ia.pin (b,o) (List.mem_append_right _ (List.mem_append_right _ (jdc hb e)))).2.1
   cases ok with
   | false =>
    rw[if_neg (by decide)] at q9 ⊢
    exact again I9 q9
   | true =>
    rw[if_pos rfl] at q9 ⊢
    refine thn (he _ _ _ _ _ s9 σ8 H9 _ I9 q9) fun y s10 hzz=>?_
    obtain⟨vy,H10,I10,r10,ys,hys,hlen,q10⟩:=hzz
    refine thn (jfo _ s10 σ8 H10 (.ref s2.heap.objs.size) [vy] (.ref s2.heap.objs.size) [y] (fun _ H'=>N σ8 H') I10 rfl (.cons r10 .nil) ⟨_,ys,vy,rfl,rfl,hys,hlen,q10⟩) fun _ s11 hzz=>?_
    obtain⟨_,H11,I11,_,q11⟩:=hzz
    exact again I11 q11
 exact codeAny_compStart_list loop (T.self _ 0 _ _ _ st4 loop)
theorem jq2{elt tg iter:Expr}{ifs:List Expr}{scope:Scope}{pos pos' cpos:Pos}{own:List Str}{caps:List (Str×Nat)}{wi:TI}{g:TG}{tc:TT}{te:TE}{i:Nat}{x:Str}(hc:X.calm=true)(ck:CapsOk X scope caps)
  (hi:PI X tg iter wi) (hg:∀ C s0 H0 ex,PG (jax X scope (own++caps.map (·.1)) C s0 H0 ex) tg g) (ht:∀ C s0 H0 ex,PC0 (jax X scope (own++caps.map (·.1)) C s0 H0 ex) ifs tc)
  (he:∀ C s0 H0 ex,PE (jax X scope (own++caps.map (·.1)) C s0 H0 ex) elt te) (hN:X.N.Nodup) (hix:X.N[i]? = some x) (hx:Loc X.env.scope x) (hsw:swapsWith (.ListComp elt [⟨tg,iter,ifs,0⟩] scope cpos) (some (.Name x pos')) pos.line X.env=pure true)
  (hf:X.fn x=true∨X.env.scope.names.lookup x=some .local) (hs:∀ x,foldedSetIterable iter X.env x=pure x) :
  PS X (.Assign [.Name x pos'] (.ListComp elt [⟨tg,iter,ifs,0⟩] scope cpos) pos) (fun Dn σ H=>jrg own.length caps wi g tc te σ H fun v H'=>Dn.nx (σ.set i (some v)) H'):=by
 intro pins s σ H Dn I h;rw[exec_Assign_Name_used _ _ _ _ hsw];refine wpAny_bind (wpAny_standAt (wpAny_bind ?_))
 show wpAny _ X.A (do let _ ← comprehension (.ListComp elt [⟨tg,iter,ifs,0⟩] scope cpos) scope X.env _ (newList []) false (eval iter X.env) (some (assign (.Name x pos') X.env))) _ _ s
 refine wpAny_bind (thn (jo4 (use:=some (assign (.Name x pos') X.env)) (QS:=fun _ s'=>SP X pins Dn .next s') hc ck hi hg ht he hs I h ?_) fun _ s' hq=>wpAny_pure (wpAny_pure hq))
 intro D H5 C s6 r I6 fc ⟨m6,n6⟩ qn
 obtain⟨f1,f2,f3,f4,f5,f6⟩:=fc
 show wpAny (model X.prog X.w) X.A (assign (.Name x pos') X.env (.ref D)) (fun _ s''=>∃ m,s''.heap.Ns C m∧∀ h',Heap.SameBut C s''.heap h'→SP X pins Dn .next { s'' with heap:=h' }) X.xe s6
 refine wpAny_assign_Name (jla I6 hN hix hx (v:=.ref D) rfl (fun s7 I7 hzz=>?_) hf)
 obtain⟨a,sba,ha⟩:=hzz
 have hCa:C≠a:=by
  rcases ha with ha|ha
  ·rw[ha];exact f2
  ·exact fun z=>f5 x a ha z.symm
 refine⟨m6,n6.sameBut sba hCa,fun h8 sb8=>⟨_,H5,I7.turned (fun b o hb e=>(sb8.2 b hb).trans e) f1 f2 f4 f5 f6,qn⟩⟩
end
end L2
namespace DL
open PySem PySem.Spec L2
theorem jvb{K:PySem.W.Frag}{O:List Nat}{E:XK}{own:Nat}{caps:List (Str×Nat)}{fi:DSt→M (List D)}{h:D→DSt→Option DSt}{tc:DSt→M Bool}{fe:DSt→M D}{σ:St}{H:Hp}{Q:VK}(hcf:jc2 O caps=true)
  (hh:tD K O E (jnt own caps fi h tc fe) σ H Q):jrg own caps (tI K O E fi) (tG K [] h) (tB K [] E0 tc) (tD K [] E0 fe) σ H Q:=by
 obtain⟨ρ,H₀,F,δ,r,R,hf,k⟩:=hh
 rcases M.b_inv hf with ⟨ds,e1,hf⟩|⟨y,e1,rfl⟩
 ·refine⟨ρ,H₀,F,δ,.ok ds,R,e1,fun J H1 s1 it Dd hD=>?_⟩
  obtain⟨dd,hd,rfl⟩:=M.o_inv hf
  cases hcd:jbx h tc fe ds (jbf own caps δ) with
  | none=>rw[hcd] at hd;cases hd
  | some tot =>
   rw[hcd] at hd
   have hd':jcn tot=some dd:=hd
   unfold jcn at hd'
   split at hd'
   ·rename_i hz
    cases hd'
    have R1:=R.mono s1
    have pf:=R1.fresh hD
    let F':Addr→Bool:=fun b=>fob F σ O b || b == Dd
    have F't:∀ b,F' b=true↔fob F σ O b=true∨b=Dd:=fun b=>by show (_ || _)=true↔_;rw[Bool.or_eq_true,beq_iff_eq]
    have vis:∀ {H2:Hp},Same H1 H2→Same (hid H1 (fob F σ O)) (hid H2 F'):=fun {H2} e b o q=>by
     obtain⟨q1,q2⟩:=hid_some.mp q
     refine hid_some.mpr ⟨?_,e b o q2⟩
     cases z:F' b with
     | false=>rfl
     | true =>
      rcases (F't b).mp z with z|z
      ·rw[q1] at z;cases z
      ·rw[z,hD] at q2;cases q2
    have R0:RS ρ K H1 (upd H1 Dd (.lst [])) F' [] (jbn own caps σ) (jbf own caps δ):=by
     refine⟨by simp[jbn,jbf],jal hD,fun b hb=>?_,fun i d hd _=>?_,fun i hi=>absurd hi (by simp),fun i hi=>absurd hi (by simp)⟩
     ·rcases (F't b).mp hb with z|z
      ·refine jd2 fun q=>?_
       rw[R1.fresh q] at z;cases z
      ·rw[z,jag];exact fun q=>nomatch q
     ·obtain⟨p,p1,p2,p3⟩:=jeu hd
      have hO:p.2∉O:=fun z=>by
       have:=List.all_eq_true.mp hcf p (List.mem_of_getElem? p1)
       rw[List.contains_iff_mem.mpr z] at this;cases this
      obtain⟨v,q1,q2⟩:=R1.val p.2 d p3 hO
      exact⟨v,jfk p1 p2 q1,by rw[ja3];exact q2.mono (vis (jal hD))⟩
    refine⟨fun i m σ' H'=>m=ds.length-i∧i≤ds.length∧∃ δ' done zs rest,RS ρ K H1 H' F' [] σ' δ'∧H' Dd=some (.lst zs)∧Reps ρ K (hid H' F') done zs∧jbx h tc fe (ds.drop i) δ'=some rest∧done++rest=tot,
     ⟨ds.length,by simp,Nat.zero_le _,_,[],[],tot,R0,jag,Reps.nil,hcd,rfl⟩,?_⟩
    rintro i m σ' H' ⟨rfl,hil,δ',done,zs,rest,R',hDd,rz,hr,htot⟩
    have fv:Same (hid H1 (fob F σ O)) (hid H' (fob F' σ' [])):=by rw[ja3];exact vis R'.same
    obtain⟨j1,j2⟩:=it H' (fob F' σ' []) i fv fun p hp=>R'.fresh hp
    by_cases hlt:i<ds.length
    ·obtain⟨go,yld⟩:=j1 hlt
     refine .inr ⟨go,fun σ2 H2=>∃ δ2 done zs rest,RS ρ K H1 H2 F' [] σ2 δ2∧H2 Dd=some (.lst zs)∧Reps ρ K (hid H2 F') done zs∧jbx h tc fe (ds.drop (i+1)) δ2=some rest∧done++rest=tot,
      fun σ2 H2 q=>⟨ds.length-(i+1),by omega,rfl,hlt,q⟩,fun x H2 y=>?_⟩
     obtain⟨s2,d,hd,rd⟩:=yld x H2 y
     have hdr:ds.drop i=d::ds.drop (i+1):=by
      rw[List.drop_eq_getElem_cons hlt]
      have:ds[i]=d:=by rw[List.getElem?_eq_getElem hlt] at hd;exact Option.some.inj hd
      rw[this]
     rw[hdr] at hr
     unfold jbx at hr
     cases e2:h d δ' with
     | none=>rw[e2] at hr;cases hr
     | some δ1 =>
      rw[e2] at hr
      dsimp only at hr
      refine⟨ρ,H1,F',δ',d,δ1,R'.mono s2,rd,e2,fun σ3 ef R3=>?_⟩
      have keepD:∀ {H5:Hp},Same H2 H5→H5 Dd=some (.lst zs)∧Reps ρ K (hid H5 F') done zs:=fun {H5} e=>⟨e _ _ (s2 _ _ hDd),rz.mono (jaf (s2.trans e))⟩
      split at hr
      ·rename_i e3
       refine⟨ρ,H1,F',δ1,.ok true,R3,e3,fun H4 s4=>iteT ?_⟩
       split at hr
       ·rename_i yv e4
        refine⟨ρ,H1,F',δ1,.ok yv,R3.mono s4,e4,fun v H5 s5 r5=>?_⟩
        rw[ja3] at r5
        obtain⟨k1,k2⟩:=keepD (s4.trans s5)
        cases e5:jbx h tc fe (ds.drop (i+1)) δ1 with
        | none=>rw[e5] at hr;cases hr
        | some rest' =>
         rw[e5] at hr
         have hr':yv::rest'=rest:=Option.some.inj hr
         have hFD:F' Dd=true:=(F't Dd).mpr (.inr rfl)
         have hh:hid (upd H5 Dd (.lst (zs++[v]))) F'=hid H5 F':=jcz hFD
         refine⟨zs,k1,?_,δ1,done++[yv],zs++[v],rest',?_,jag,?_,e5,by rw[List.append_assoc,← htot,← hr'];rfl⟩
         ·have l1:=k2.length
          have l2:=congrArg List.length htot
          rw[List.length_append,← hr',List.length_cons] at l2
          omega
         ·have R5:=R3.mono (s4.trans s5)
          refine⟨R5.len,jeq R5.same hD,fun b hb=>jd2 (R5.fin b hb),fun j d' hj hO=>?_,fun j hj=>absurd hj (by simp),fun j hj=>absurd hj (by simp)⟩
          obtain⟨v',w1,w2⟩:=R5.val j d' hj hO
          refine⟨v',w1,?_⟩
          rw[ja3] at w2 ⊢
          rw[hh];exact w2
         ·rw[hh]
          exact k2.append (Reps.cons r5 Reps.nil)
       ·cases hr
      ·rename_i e3
       refine⟨ρ,H1,F',δ1,.ok false,R3,e3,fun H4 s4=>iteF ?_⟩
       obtain⟨k1,k2⟩:=keepD s4
       exact⟨δ1,done,zs,rest,R3.mono s4,k1,k2,hr,htot⟩
      ·cases hr
    ·have ei:i=ds.length:=by omega
     subst ei
     rw[List.drop_length] at hr
     cases hr
     rw[List.append_nil] at htot
     subst htot
     refine .inl ⟨j2 rfl,k _ H' (s1.trans R'.same) ?_⟩
     exact rep_lst.mpr ⟨Dd,zs,rfl,SqL.of (hid_some.mpr ⟨pf,hDd⟩),rz.mono (jcr fun b q=>(F't b).mpr (.inl q))⟩
   ·cases hd'
 ·exact⟨ρ,H₀,F,δ,.error y,R,e1,k⟩
section
variable {X:Cx}{O B:List Nat}{E:XK}{elt tg iter:Expr}{pos:Pos}
theorem jvj{i:Nat}{x:Str}{pos' cpos:Pos}{ifs:List Expr}{scope:Scope}{own:List Str}{caps:List (Str×Nat)}{fi:DSt→M (List D)}{h:D→DSt→Option DSt}{tc:DSt→M Bool}{fe:DSt→M D}(hN:X.N.Nodup)(hc:X.calm=true)(ck:CapsOk X scope caps)(hi:DI X O E tg iter fi)
  (hg:∀ C s0 H0 ex,DG (jax X scope (own++caps.map (·.1)) C s0 H0 ex) [] tg h) (ht:∀ C s0 H0 ex,DC (jax X scope (own++caps.map (·.1)) C s0 H0 ex) [] E0 ifs tc)
  (he:∀ C s0 H0 ex,DE (jax X scope (own++caps.map (·.1)) C s0 H0 ex) [] E0 elt fe) (ho:autoParam (O.contains i=false) zau2._auto_1) (hix:autoParam (X.N[i]? = some x) zau2._auto_1) (hx:autoParam (Loc X.env.scope x) zau8._auto_1)
  (hsw:autoParam (swapsWith (.ListComp elt [⟨tg,iter,ifs,0⟩] scope cpos) (some (.Name x pos')) pos.line X.env=pure true) zau2._auto_1)
  (hf:autoParam (X.fn x=true∨X.env.scope.names.lookup x=some .local) zau0._auto_1) (hcf:autoParam (jc2 O caps=true) zau2._auto_1) (hs:autoParam (∀ x,foldedSetIterable iter X.env x=pure x) zau4._auto_1) :
  DS X O O B E (.Assign [.Name x pos'] (.ListComp elt [⟨tg,iter,ifs,0⟩] scope cpos) pos) (gSet i (jnt own.length caps fi h tc fe)):=by
 rintro pins s σ H Dn I ⟨ρ,H₀,F,δ,r,R,hg',k⟩
 have ho':i∉O:=fun z=>by rw[List.contains_iff_mem.mpr z] at ho;cases ho
 refine jq2 (own:=own) (g:=tG X.K [] h) (tc:=tB X.K [] E0 tc) (te:=tD X.K [] E0 fe) hc ck hi hg ht he hN hix hx hsw hf hs pins s σ H Dn I (jvb hcf ?_)
 rcases M.b_inv hg' with ⟨d,e1,hg'⟩|⟨y,e1,rfl⟩
 ·cases hg'
  exact⟨ρ,H₀,F,δ,.ok d,R,e1,fun v H' s' r'=>k _ H' (jnf ho' s') ((R.mono s').set ho' r')⟩
 ·exact⟨ρ,H₀,F,δ,.error y,R,e1,k⟩
end
end DL
namespace DL
open PySem PySem.Spec L2 PyProof.Rows
section
variable {X:Cx}
noncomputable def jBx:List D→Option D
 | [.lst [.int i,.int j]]=>some (.int (if j<i then j else i))
 | _=>none
@[simp] theorem kmin1(i j:Int):jBx [.lst [.int i,.int j]]=some (.int (if j<i then j else i)):=rfl
end
end DL
namespace DL
open PySem PySem.Spec L2
section
variable {ρ₀ ρ ρ':Rho}{S₀ S S' F:Addr→Bool}{H₀ H H1 H':Hp}{K:PySem.W.Frag}{mg:Str→Option Value}{O O' B:List Nat}{σ σ':St}{δ δ':DSt}{Ω Ω':Sto}
theorem SOk.no_tup{ρ:Rho}{S:Addr→Bool}{K:PySem.W.Frag}{mg:Str→Option Value}{H Hv:Hp}{a:Addr}{so:SO}(h:SOk ρ S K mg H Hv a so)(xs:List V):H a≠some (.tup xs):=fun q=>by
 cases so with
 | ins c fs =>
  obtain⟨_,_,_,_,p,_⟩:=h
  rw[q] at p;cases p
 | lst ds =>
  obtain⟨_,p,_⟩:=h
  rw[q] at p;cases p
 | tab _ _ _ _ =>
  obtain⟨_,p,_⟩:=h
  rw[q] at p;cases p
 | dct _ =>
  obtain⟨_,p,_⟩:=h
  rw[q] at p;cases p
theorem RM.putS(R:RM ρ₀ S₀ H₀ F K mg O ρ S H σ δ Ω){i:Nat}{a:Addr}{so0 so':SO}{o0 o':HO}(hi:Ω[i]? = some so0)(ha:ρ i=some a)(hS:S a=true)(hH:H a=some o0)(hno:∀ y,HO.own y≠o0)(hr:SOk ρ S K mg (upd H a o') (hid H (fob (un F S) σ O)) a so') :
  RM ρ₀ S₀ H₀ F K mg O ρ S (upd H a o') σ δ (Ω.set i so')∧hid (upd H a o') (fob (un F S) σ O)=hid H (fob (un F S) σ O):=by
 have hF:un F S a=true:=un_t.mpr (.inr hS)
 have hh:hid (upd H a o') (fob (un F S) σ O)=hid H (fob (un F S) σ O):=jcz (jd8 a hF)
 have il:i<Ω.length:=(List.getElem?_eq_some_iff.mp hi).1
 refine⟨⟨R.rs.updF hF,R.rho,fun b o h1 h2=>?_,R.old,R.new,R.own0,R.ff,?_⟩,hh⟩
 ·have hb:b≠a:=by
   rintro rfl
   rcases R.new b hS with q|q
   ·rw[q] at h1;cases h1
   ·rw[q] at h2;cases h2
  rw[jaj hb];exact R.same b o h1 h2
 ·rw[hh]
  refine⟨fun j so hj=>?_,R.sto.inj,fun j hj=>R.sto.top j (by simpa using hj),fun b hb=>jd2 (R.sto.fin b hb),jf8 R.sto.tv fun xs z=>hr.no_tup xs (by rw[jag,z])⟩
  by_cases hji:j=i
  ·subst hji
   rw[List.getElem?_set_self il] at hj
   cases hj
   exact⟨a,ha,hS,hr⟩
  ·rw[List.getElem?_set_ne (Ne.symm hji)] at hj
   obtain⟨a',q1,q2,q3⟩:=R.sto.ats j so hj
   have ne:a'≠a:=by
    rintro rfl
    exact hji (R.sto.inj j i a' q1 ha)
   refine⟨a',q1,q2,?_⟩
   cases so with
   | ins c' fs' =>
    obtain⟨C',dx',vfs',p1,p2,p3,p4,p5⟩:=q3
    have nd:dx'≠a:=jl3 p3 hH (hno _)
    exact⟨C',dx',vfs',p1,by rw[jaj ne];exact p2,by rw[jaj nd];exact p3,p4,p5⟩
   | lst ds0 =>
    obtain⟨xs0,p1,p2⟩:=q3
    exact⟨xs0,by rw[jaj ne];exact p1,p2⟩
   | tab _ _ _ _ =>
    obtain⟨ps,p1,p2,p3⟩:=q3
    exact⟨ps,by rw[jaj ne];exact p1,p2,p3⟩
   | dct _ =>
    obtain⟨vk,p1,p2,p3⟩:=q3
    exact⟨vk,by rw[jaj ne];exact p1,p2,p3⟩
theorem RM.putL(R:RM ρ₀ S₀ H₀ F K mg O ρ S H σ δ Ω){i:Nat}{a:Addr}{ds ds':List D}{xs xs':List V}(hi:Ω[i]? = some (.lst ds))(ha:ρ i=some a)(hS:S a=true)(hH:H a=some (.lst xs))(hr:Reps ρ K (hid H (fob (un F S) σ O)) ds' xs') :
  RM ρ₀ S₀ H₀ F K mg O ρ S (upd H a (.lst xs')) σ δ (Ω.set i (.lst ds'))∧hid (upd H a (.lst xs')) (fob (un F S) σ O)=hid H (fob (un F S) σ O) :=
 R.putS hi ha hS hH (fun _ z=>nomatch z) ⟨xs',jag,hr⟩
theorem RM.newS(R:RM ρ₀ S₀ H₀ F K mg O ρ S H σ δ Ω){x:Addr}{nso:SO}{no:HO}(hx:H x=none)(hr:∀ ρ' S' Hv',RLe ρ ρ'→Same (hid H (fob (un F S) σ O)) Hv'→SOk ρ' S' K mg (upd H x no) Hv' x nso) :
  RM ρ₀ S₀ H₀ F K mg O (addR ρ Ω.length x) (addS S x x) (upd H x no) σ δ (Ω++[nso])∧RLe ρ (addR ρ Ω.length x) ∧
   Same (hid H (fob (un F S) σ O)) (hid (upd H x no) (fob (un F (addS S x x)) σ O)):=by
 have top:=R.sto.top Ω.length (Nat.le_refl _)
 have l:RLe ρ (addR ρ Ω.length x):=fun i a h=>by
  unfold addR
  by_cases e:i=Ω.length
  ·subst e;rw[top] at h;cases h
  ·rw[if_neg e];exact h
 have sm:Same H (upd H x no):=jal hx
 have old:∀ b,S b=true→addS S x x b=true:=fun b h=>addS_t.mpr (.inl h)
 have new:∀ b,addS S x x b=true→S b=true∨H b=none:=fun b h=>by
  rcases addS_t.mp h with q|rfl|rfl
  ·exact .inl q
  ·exact .inr hx
  ·exact .inr hx
 have ff:∀ b,fob F σ O b=true→addS S x x b=false:=fun b h=>by
  have h2:fob (un F S) σ O b=true:=by rw[← jea];exact un_t.mpr (.inl h)
  cases e:addS S x x b with
  | false=>rfl
  | true =>
   rcases addS_t.mp e with q|rfl|rfl
   ·rcases fob_t.mp h with z|z
    ·rw[R.ff b z] at q;cases q
    ·exact absurd z (R.base_S q)
   ·rw[R.fresh hx] at h2;cases h2
   ·rw[R.fresh hx] at h2;cases h2
 have keep:∀ b,S b=true→(upd H x no) b=H b:=R.at_store sm
 have vis0:Same (hid H (fob (un F S) σ O)) (hid (upd H x no) (un (fob F σ O) (addS S x x))):=fun b o q=>by
  obtain⟨q1,q2⟩:=hid_some.mp q
  refine hid_some.mpr ⟨?_,sm b o q2⟩
  cases e:un (fob F σ O) (addS S x x) b with
  | false=>rfl
  | true =>
   rcases un_t.mp e with z|z
   ·have h2:fob (un F S) σ O b=true:=by rw[← jea];exact un_t.mpr (.inl z)
    rw[h2] at q1;cases q1
   ·rcases new b z with z|z
    ·have h2:fob (un F S) σ O b=true:=jd8 b (un_t.mpr (.inr z))
     rw[h2] at q1;cases q1
    ·rw[z] at q2;cases q2
 have sto:StoOk (addR ρ Ω.length x) (addS S x x) K mg (upd H x no) (hid (upd H x no) (un (fob F σ O) (addS S x x))) (Ω++[nso]):=by
  refine⟨fun i so hi=>?_,fun i j a h1 h2=>?_,fun i hi=>?_,fun b hb=>?_,jrk (jf8 R.sto.tv fun xs z=>(hr ρ S _ (RLe.refl _) (Same.refl _)).no_tup xs (by rw[jag,z])) vis0⟩
  ·by_cases h:i<Ω.length
   ·rw[List.getElem?_append_left h] at hi
    obtain⟨a,q1,q2,q3⟩:=R.sto.ats i so hi
    refine⟨a,l i a q1,old a q2,?_⟩
    cases so with
    | ins c' fs' =>
     obtain⟨C',dx',vfs',p1,p2,p3,p4,p5⟩:=q3
     exact⟨C',dx',vfs',p1,by rw[keep a q2];exact p2,by rw[keep dx' p4];exact p3,old _ p4,p5.mono l vis0⟩
    | lst ds =>
     obtain⟨xs,p1,p2⟩:=q3
     exact⟨xs,by rw[keep a q2];exact p1,(p2.rho l).mono vis0⟩
    | tab _ _ _ _ =>
     obtain⟨ps,p1,p2,p3⟩:=q3
     exact⟨ps,by rw[keep a q2];exact p1,p2,p3.mono vis0⟩
    | dct _ =>
     obtain⟨vk,p1,p2,p3⟩:=q3
     exact⟨vk,by rw[keep a q2];exact p1,p2,(p3.rho l).mono vis0⟩
   ·have e:i=Ω.length:=by
     have:=(List.getElem?_eq_some_iff.mp hi).1
     simp at this;omega
    subst e
    rw[List.getElem?_append_right (Nat.le_refl _),Nat.sub_self] at hi
    cases hi
    exact⟨x,by unfold addR;rw[if_pos rfl],addS_t.mpr (.inr (.inl rfl)),hr _ _ _ l vis0⟩
  ·have fresh:∀ i a,i≠Ω.length→ρ i=some a→a≠x:=fun i a hi h z=>by
    subst z
    have il:i<Ω.length:=by
     by_cases q:i<Ω.length
     ·exact q
     ·rw[R.sto.top i (by omega)] at h;cases h
    obtain⟨a',q1,q2,_⟩:=R.sto.ats i _ (List.getElem?_eq_getElem il)
    rw[h] at q1;cases q1
    exact R.sto.fin a q2 hx
   unfold addR at h1 h2
   by_cases e1:i=Ω.length
   ·by_cases e2:j=Ω.length
    ·rw[e1,e2]
    ·rw[if_pos e1] at h1;rw[if_neg e2] at h2
     cases h1
     exact absurd rfl (fresh j _ e2 h2)
   ·by_cases e2:j=Ω.length
    ·rw[if_neg e1] at h1;rw[if_pos e2] at h2
     cases h2
     exact absurd rfl (fresh i _ e1 h1)
    ·rw[if_neg e1] at h1;rw[if_neg e2] at h2
     exact R.sto.inj i j a h1 h2
  ·rw[List.length_append,List.length_singleton] at hi
   unfold addR
   rw[if_neg (by omega)]
   exact R.sto.top i (by omega)
  ·rcases addS_t.mp hb with q|rfl|rfl
   ·rw[keep b q];exact R.sto.fin b q
   ·rw[jag];exact fun z=>nomatch z
   ·rw[jag];exact fun z=>nomatch z
 obtain⟨t1,t2⟩:=R.call l (fun b o _ h=>sm b o h) old new ff sto
 exact⟨t1,l,t2⟩
theorem RM.newL(R:RM ρ₀ S₀ H₀ F K mg O ρ S H σ δ Ω){x:Addr}{nds:List D}{nxs:List V}(hx:H x=none)(hr:Reps ρ K (hid H (fob (un F S) σ O)) nds nxs) :
  RM ρ₀ S₀ H₀ F K mg O (addR ρ Ω.length x) (addS S x x) (upd H x (.lst nxs)) σ δ (Ω++[.lst nds])∧RLe ρ (addR ρ Ω.length x) ∧
   Same (hid H (fob (un F S) σ O)) (hid (upd H x (.lst nxs)) (fob (un F (addS S x x)) σ O)) :=
 R.newS (nso:=.lst nds) hx fun ρ' S' Hv' l v=>⟨nxs,jag,(hr.rho l).mono v⟩
end
noncomputable def jkm(fl:DSt→MS (List D)):DSt→MS D:=fun δ=>(fl δ).b fun ds Ω=>if ds.length≤sizeLine then some (.ok (.obj Ω.length),Ω++[.lst ds]) else none
section
variable {X:Cx}{O B:List Nat}{a b e o:Expr}{es:List Expr}{fa fb fo:DSt→MS D}{fl:DSt→MS (List D)}{pos:Pos}
theorem jlw(h:MA X O es fl):ME X O (.List es pos) (jkm fl):=by
 rintro pins s σ H Q I ⟨ρ₀,S₀,H₀,F,ρ,S,δ,Ω,R,r,Ω',hf,k⟩
 refine jku h pins s σ H Q I ?_
 rcases MS.b_inv hf with ⟨x,Ω1,e1,hf⟩|⟨x,e1,rfl⟩
 ·refine⟨ρ₀,S₀,H₀,F,ρ,S,δ,Ω,R,.ok x,Ω1,e1,fun u ρ1 S1 H1 R1 l1 v1 r1=>?_⟩
  by_cases hz:x.length≤sizeLine
  ·rw[if_pos hz] at hf
   cases hf
   refine⟨by rw[r1.length];exact hz,fun p hp=>?_⟩
   obtain⟨t1,t2,t3⟩:=R1.newL hp r1
   exact k _ _ _ _ t1 (l1.trans t2) (v1.trans t3) (rep_obj.mpr ⟨p,by unfold addR;rw[if_pos rfl],rfl⟩)
  ·rw[if_neg hz] at hf;cases hf
 ·exact⟨ρ₀,S₀,H₀,F,ρ,S,δ,Ω,R,.error x,_,e1,trivial⟩
noncomputable def atL:D→D→MS D:=fun x y Ω=>match x,y with
 | .obj i,.int j=>match Ω[i]? with
  | some (.lst ds)=>(L2.atI ds j).map fun d=>(.ok d,Ω)
  | _=>none
 | _,_=>none
inductive AtLI(x y:D)(Ω Ω':Sto)(r:Except XD D):Prop
 | mk (i:Nat) (j:Int) (ds:List D) (d:D) (hx:x=.obj i) (hy:y=.int j) (hi:Ω[i]? = some (.lst ds)) (ha:L2.atI ds j=some d) (hr:r=.ok d) (ho:Ω'=Ω)
theorem jlg{x y:D}{Ω Ω':Sto}{r:Except XD D}(h:atL x y Ω=some (r,Ω')):AtLI x y Ω Ω' r:=by
 unfold atL at h
 cases x with
 | obj i =>
  cases y with
  | int j =>
   dsimp only at h
   cases hi:Ω[i]? with
   | none=>rw[hi] at h;cases h
   | some so =>
    rw[hi] at h
    cases so with
    | ins c fs=>cases h
    | tab _ _ _ _=>cases h
    | dct _=>cases h
    | lst ds =>
     dsimp only at h
     cases ha:L2.atI ds j with
     | none=>rw[ha] at h;cases h
     | some d =>
      rw[ha] at h
      cases h
      exact⟨i,j,ds,d,rfl,rfl,hi,ha,rfl,rfl⟩
  | _=>cases h
 | _=>cases h
noncomputable def mIxL(fa fb:DSt→MS D):DSt→MS D:=fun δ=>(fa δ).b fun x=>(fb δ).b fun y=>atL x y
theorem jdr(ha:ME X O a fa)(hb:ME X O b fb)(hs:autoParam (jgo b) zau6._auto_1):ME X O (.Subscript a b pos) (mIxL fa fb):=by
 rintro pins s σ H Q I ⟨ρ₀,S₀,H₀,F,ρ,S,δ,Ω,R,r,Ω',hf,k⟩
 refine jtf ix_list ha hb hs pins s σ H Q I ?_
 rcases MS.b_inv hf with ⟨x,Ω1,e1,hf⟩|⟨x,e1,rfl⟩
 ·refine⟨ρ₀,S₀,H₀,F,ρ,S,δ,Ω,R,.ok x,Ω1,e1,fun u ρ1 S1 H1 R1 l1 v1 r1=>?_⟩
  rcases MS.b_inv hf with ⟨y,Ω2,e2,hf⟩|⟨y,e2,rfl⟩
  ·refine⟨ρ₀,S₀,H₀,F,ρ1,S1,δ,Ω1,R1,.ok y,Ω2,e2,fun w ρ2 S2 H2 R2 l2 v2 r2=>?_⟩
   obtain⟨i,j,ds,d,rfl,rfl,hi,hj,rfl,rfl⟩:=jlg hf
   obtain⟨ad,q1,q2⟩:=rep_obj.mp ((r1.rho l2).mono v2)
   obtain⟨ad',p1,p2,xs,p3,p4⟩:=R2.sto.ats i _ hi
   rw[q1] at p1;cases p1
   obtain⟨v,hv,rv⟩:=jjn p4 hj
   exact⟨ad,xs,j,v,q2,rep_int.mp r2,SqL.of p3,hv,k v ρ2 S2 H2 R2 (l1.trans l2) (v1.trans v2) rv⟩
  ·exact⟨ρ₀,S₀,H₀,F,ρ1,S1,δ,Ω1,R1,.error y,_,e2,trivial⟩
 ·exact⟨ρ₀,S₀,H₀,F,ρ,S,δ,Ω,R,.error x,_,e1,trivial⟩
noncomputable def chkL:D→MS D:=fun x Ω=>match x with
 | .obj i=>match Ω[i]? with
  | some (.lst _)=>some (.ok x,Ω)
  | _=>none
 | _=>none
noncomputable def putL(g:List D→Option (List D)):D→MS D:=fun x Ω=>match x with
 | .obj i=>match Ω[i]? with
  | some (.lst ds)=>(g ds).map fun es=>(.ok .non,Ω.set i (.lst es))
  | _=>none
 | _=>none
inductive ChkI(x:D)(Ω Ω':Sto)(r:Except XD D):Prop
 | mk (i:Nat) (ds:List D) (hx:x=.obj i) (hi:Ω[i]? = some (.lst ds)) (hr:r=.ok x) (ho:Ω'=Ω)
theorem jgh{x:D}{Ω Ω':Sto}{r:Except XD D}(h:chkL x Ω=some (r,Ω')):ChkI x Ω Ω' r:=by
 unfold chkL at h
 cases x with
 | obj i =>
  dsimp only at h
  cases hi:Ω[i]? with
  | none=>rw[hi] at h;cases h
  | some so =>
   rw[hi] at h
   cases so with
   | ins c fs=>cases h
   | tab _ _ _ _=>cases h
   | dct _=>cases h
   | lst ds=>cases h;exact⟨i,ds,rfl,hi,rfl,rfl⟩
 | _=>cases h
inductive PutI(g:List D→Option (List D))(x:D)(Ω Ω':Sto)(r:Except XD D):Prop
 | mk (i:Nat) (ds es:List D) (hx:x=.obj i) (hi:Ω[i]? = some (.lst ds)) (hg:g ds=some es) (hr:r=.ok .non) (ho:Ω'=Ω.set i (.lst es))
theorem jex{g:List D→Option (List D)}{x:D}{Ω Ω':Sto}{r:Except XD D}(h:putL g x Ω=some (r,Ω')):PutI g x Ω Ω' r:=by
 unfold putL at h
 cases x with
 | obj i =>
  dsimp only at h
  cases hi:Ω[i]? with
  | none=>rw[hi] at h;cases h
  | some so =>
   rw[hi] at h
   cases so with
   | ins c fs=>cases h
   | tab _ _ _ _=>cases h
   | dct _=>cases h
   | lst ds =>
    dsimp only at h
    cases hg:g ds with
    | none=>rw[hg] at h;cases h
    | some es=>rw[hg] at h;cases h;exact⟨i,ds,es,rfl,hi,hg,rfl,rfl⟩
 | _=>cases h
noncomputable def gApL(d:D):List D→Option (List D):=fun ds=>if ds.length<sizeLine then some (ds++[d]) else none
noncomputable def jfz(fo fa:DSt→MS D):DSt→MS D:=fun δ=>(fo δ).b fun x=>(chkL x).b fun x=>(fa δ).b fun d=>putL (gApL d) x
theorem jje{p2 p3:Pos}(ho:ME X O o fo)(he:ME X O e fa)(hbase:autoParam (attributeBase o "append" X.env (eval o X.env)=eval o X.env) zau2._auto_1)
  (hfew:((backTo p3 (starEach [e] X.env)).all (fun x=>!x.1)&&(backToKw p3 (keywordEach [] X.env)).all (fun x=>x.1.isSome)
   && decide ([e].length+([]:List Keyword).length+(if ([]:List Keyword).isEmpty then 0 else 1)<30))=true:=by rfl)
  (hline:autoParam ((p2.endLine == p3.line)=true) zau2._auto_1) (hs:autoParam (starEach [e] X.env=[(false,eval e X.env)]) zau2._auto_1) :
  ME X O (.Call (.Attribute o "append" p2) [e] [] p3) (jfz fo fa):=by
 rintro pins s σ H Q I ⟨ρ₀,S₀,H₀,F,ρ,S,δ,Ω,R,r,Ω',hf,k⟩
 refine jzq PySem.F.plainAttrs_list PySem.F.slot_list_append PySem.F.type_list_append jfo ho (jhs he jm7 hs) hbase hfew hline hs rfl pins s σ H Q I ?_
 rcases MS.b_inv hf with ⟨x,Ω1,e1,hf⟩|⟨x,e1,rfl⟩
 ·refine⟨ρ₀,S₀,H₀,F,ρ,S,δ,Ω,R,.ok x,Ω1,e1,fun u ρ1 S1 H1 R1 l1 v1 r1=>?_⟩
  rcases MS.b_inv hf with ⟨x',Ω1',e1',hf⟩|⟨x',e1',rfl⟩
  ·obtain⟨i,ds,rfl,hi,hr,rfl⟩:=jgh e1'
   cases hr
   obtain⟨ad,q1,q2⟩:=rep_obj.mp r1
   obtain⟨ad',p1,p2,xs,p3,p4⟩:=R1.sto.ats i _ hi
   rw[q1] at p1;cases p1
   refine⟨by rw[q2];exact .inl ⟨rfl,xs,SqL.of p3⟩,?_⟩
   rcases MS.b_inv hf with ⟨y,Ω2,e2,hf⟩|⟨y,e2,rfl⟩
   ·refine⟨ρ₀,S₀,H₀,F,ρ1,S1,δ,_,R1,.ok y,Ω2,e2,fun w ρ2 S2 H2 R2 l2 v2 r2=>?_⟩
    obtain⟨i',ds',es',hx',hi',hg',hr',rfl⟩:=jex hf
    cases hx'
    cases hr'
    obtain⟨b1,t1,t2,ys,t3,t4⟩:=R2.sto.ats i _ hi'
    rw[l2 i ad q1] at t1;cases t1
    unfold gApL at hg'
    by_cases hz:ds'.length<sizeLine
    ·rw[if_pos hz] at hg'
     cases hg'
     obtain⟨w1,w2⟩:=R2.putL hi' (l2 i ad q1) t2 t3 (t4.append (Reps.cons r2 Reps.nil))
     exact⟨ad,ys,w,q2,rfl,t3,by rw[t4.length];exact hz,k _ ρ2 S2 _ w1 (l1.trans l2) (by rw[w2];exact v1.trans v2) (rep_non.mpr rfl)⟩
    ·rw[if_neg hz] at hg';cases hg'
   ·exact⟨ρ₀,S₀,H₀,F,ρ1,S1,δ,_,R1,.error y,_,e2,trivial⟩
  ·exact absurd (jgh e1') (fun ⟨_,_,_,_,h,_⟩=>by cases h)
 ·exact⟨ρ₀,S₀,H₀,F,ρ,S,δ,Ω,R,.error x,_,e1,trivial⟩
noncomputable def gStL(j:Int)(d:D):List D→Option (List D):=fun ds=>(ixN ds.length j).map fun n=>ds.set n d
noncomputable def setL(x y d:D):MS D:=match y with
 | .int j=>putL (gStL j d) x
 | _=>fun _=>none
theorem jjq{x d:D}{j:Int}:setL x (.int j) d=putL (gStL j d) x:=rfl
noncomputable def jkd(fo fi fv:DSt→MS D):DSt→MS Out:=fun δ=>(fv δ).b fun d=>(fo δ).b fun x=>(fi δ).b fun y=>(setL x y d).b fun _=>MS.p (.nx δ)
theorem jjg{i:Expr}{fi:DSt→MS D}{p2:Pos}(ho:ME X O o fo)(hi:ME X O i fi)(hv:ME X O e fa)
  (ha:∀ v,assign (.Subscript o i p2) X.env v=(do
   let ov ← holding [v] (eval o X.env)
   let iv ← holding [v,ov] (eval i X.env)
   standAt p2
   holding [v,ov,iv] (setItem ov iv v)
   release [v,ov,iv] []):=by intro _;rfl)
  (hs:autoParam (swapsWithSole [.Subscript o i p2] e pos.line X.env=pure false) zau2._auto_1) (hw:autoParam (swappedStores [.Subscript o i p2] e X.env=pure none) zau2._auto_1)
  (h1:autoParam ((assignEach [.Subscript o i p2] X.env).map (·.2)=[assign (.Subscript o i p2) X.env]) zau2._auto_1):MSt X O O B (.Assign [.Subscript o i p2] e pos) (jkd fo fi fa):=by
 rintro pins s σ H Dn I ⟨ρ₀,S₀,H₀,F,ρ,S,δ,Ω,R,r,Ω',hg,k⟩
 refine juo hv (jum ho hi jjr ha) hs hw h1 pins s σ H Dn I ?_
 rcases MS.b_inv hg with ⟨d,Ω1,e1,hg⟩|⟨d,e1,rfl⟩
 ·refine⟨ρ₀,S₀,H₀,F,ρ,S,δ,Ω,R,.ok d,Ω1,e1,fun v ρ1 S1 H1 R1 l1 v1 r1=>?_⟩
  rcases MS.b_inv hg with ⟨x,Ω2,e2,hg⟩|⟨x,e2,rfl⟩
  ·refine⟨ρ₀,S₀,H₀,F,ρ1,S1,δ,Ω1,R1,.ok x,Ω2,e2,fun u ρ2 S2 H2 R2 l2 v2 r2=>?_⟩
   rcases MS.b_inv hg with ⟨y,Ω3,e3,hg⟩|⟨y,e3,rfl⟩
   ·refine⟨ρ₀,S₀,H₀,F,ρ2,S2,δ,Ω2,R2,.ok y,Ω3,e3,fun w ρ3 S3 H3 R3 l3 v3 r3=>?_⟩
    rcases MS.b_inv hg with ⟨z,Ω4,e4,hg⟩|⟨z,e4,rfl⟩
    ·cases hg
     cases y with
     | int j =>
      obtain⟨n,ds,es,rfl,hi',hg',_,rfl⟩:=jex (g:=gStL j d) e4
      obtain⟨ad,q1,q2⟩:=rep_obj.mp ((r2.rho l3).mono v3)
      obtain⟨ad',p1,p2',xs,p3,p4⟩:=R3.sto.ats n _ hi'
      rw[q1] at p1;cases p1
      unfold gStL at hg'
      cases hx:ixN ds.length j with
      | none=>rw[hx] at hg';cases hg'
      | some m =>
       rw[hx] at hg'
       cases hg'
       have rd:=(((r1.rho l2).mono v2).rho l3).mono v3
       obtain⟨w1,w2⟩:=R3.putL hi' q1 p2' p3 (Reps.set rd m p4)
       exact⟨ad,xs,j,m,q2,rep_int.mp r3,p3,by rw[p4.length];exact hx,k ρ3 S3 σ _ w1 (l1.trans (l2.trans l3)) (by rw[w2];exact v1.trans (v2.trans v3))⟩
     | _=>cases e4
    ·cases y with
     | int j=>exact absurd (jex (g:=gStL j d) e4) (fun ⟨_,_,_,_,_,_,h,_⟩=>by cases h)
     | _=>cases e4
   ·exact⟨ρ₀,S₀,H₀,F,ρ2,S2,δ,Ω2,R2,.error y,_,e3,trivial⟩
  ·exact⟨ρ₀,S₀,H₀,F,ρ1,S1,δ,Ω1,R1,.error x,_,e2,trivial⟩
 ·exact⟨ρ₀,S₀,H₀,F,ρ,S,δ,Ω,R,.error d,_,e1,trivial⟩
noncomputable def rGtL(K:PySem.W.Frag):V→V→Hp→VK→Prop:=fun x y H Q=>∃ p xs i v,x=.ref p∧y=.int i∧0≤i∧SqL K H p xs∧xs[i.toNat]? = some v∧Q v H
theorem jpl:PGet X (rGtL X.K):=by
 intro pins s σ H o i ov iv Q I ro ri h
 obtain⟨p,xs,j,v,rfl,rfl,h0,hq,he,q⟩:=h
 cases ro
 obtain⟨t,rfl⟩:=ri
 obtain⟨its,r,pl,hz⟩:=I.list hq
 obtain⟨w,ew,rw'⟩:=r.get he
 have hlt:j.toNat<its.length:=(List.getElem?_eq_some_iff.mp ew).1
 have hl:=r.length
 have hn:sizeLine=16777216:=sizeLine_eq
 exact wpAny_getItem_list pl.isList h0 (by omega) (by simpa using ew) ⟨v,H,I,rw',q⟩
noncomputable def gtL:D→D→MS D:=fun x y=>match y with
 | .int j=>if 0≤j then atL x y else fun _=>none
 | _=>fun _=>none
noncomputable def adL(x y:D):MS D:=match x,y with
 | .int i,.int j=>MS.p (.int (i+j))
 | _,_=>fun _=>none
noncomputable def jpa(fo fi fe:DSt→MS D):DSt→MS Out:=fun δ=>(fo δ).b fun x=>(fi δ).b fun y=>(gtL x y).b fun c=>(fe δ).b fun d=>(adL c d).b fun z=>(setL x y z).b fun _=>MS.p (.nx δ)
theorem jxt{ds:List D}{j:Int}{d:D}(h0:0≤j)(h:L2.atI ds j=some d):ds[j.toNat]? = some d:=by
 obtain⟨n,h1,h2,h3,h4,h5⟩:=L2.atI_get h
 rw[seqIndex_of h0 h5] at h1
 rw[Option.some.inj h1];exact h2
theorem jwa{i:Expr}{fi:DSt→MS D}{tpos:Pos}(ho:ME X O o fo)(hi:ME X O i fi)(he:ME X O e fa)
  (ha:autoParam (∀ ov iv new,augStore i ov iv new=(do holding [new,ov,iv] (setItem ov iv new);release [new,ov,iv] [];pure .next)) zau3._auto_1):MSt X O O B (.AugAssign (.Subscript o i tpos) .Add e pos) (jpa fo fi fa):=by
 rintro pins s σ H Dn I ⟨ρ₀,S₀,H₀,F,ρ,S,δ,Ω,R,r,Ω',hg,k⟩
 refine jwu ho hi jpl he jyr jjr ha pins s σ H Dn I ?_
 rcases MS.b_inv hg with ⟨x,Ω1,e1,hgA⟩|⟨x,e1,rfl⟩
 ·refine⟨ρ₀,S₀,H₀,F,ρ,S,δ,Ω,R,.ok x,Ω1,e1,fun u ρ1 S1 H1 R1 l1 v1 r1=>?_⟩
  rcases MS.b_inv hgA with ⟨y,Ω2,e2,hgB⟩|⟨y,e2,rfl⟩
  ·refine⟨ρ₀,S₀,H₀,F,ρ1,S1,δ,Ω1,R1,.ok y,Ω2,e2,fun w ρ2 S2 H2 R2 l2 v2 r2=>?_⟩
   cases y with
   | int j =>
    have h0:0≤j:=by
     by_cases h0:0≤j
     ·exact h0
     ·have z:gtL x (.int j)=fun _=>none:=if_neg h0
      rcases MS.b_inv hgB with ⟨c,Ω3,e3,_⟩|⟨c,e3,_⟩<;>(rw[z] at e3;cases e3)
    have z:gtL x (.int j)=atL x (.int j):=if_pos h0
    rw[z] at hgB
    rcases MS.b_inv hgB with ⟨c,Ω3,e3,hgC⟩|⟨c,e3,rfl⟩
    ·obtain⟨n,j',ds,d,rfl,hy,hn,hj,hr,rfl⟩:=jlg e3
     cases hy
     cases hr
     obtain⟨ad,q1,q2⟩:=rep_obj.mp ((r1.rho l2).mono v2)
     obtain⟨ad',p1,p2,xs,p3,p4⟩:=R2.sto.ats n _ hn
     rw[q1] at p1;cases p1
     obtain⟨v,hv,rv⟩:=p4.get (jxt h0 hj)
     refine⟨ad,xs,j,v,q2,rep_int.mp r2,h0,SqL.of p3,hv,?_⟩
     rcases MS.b_inv hgC with ⟨dd,Ω4,e4,hgD⟩|⟨dd,e4,rfl⟩
     ·refine⟨ρ₀,S₀,H₀,F,ρ2,S2,δ,_,R2,.ok dd,Ω4,e4,fun w4 ρ4 S4 H4 R4 l4 v4 r4=>?_⟩
      rcases MS.b_inv hgD with ⟨zz,Ω5,e5,hgE⟩|⟨zz,e5,rfl⟩
      ·cases c with
       | int c0 =>
        cases dd with
        | int d0 =>
         cases e5
         rcases MS.b_inv hgE with ⟨z6,Ω6,e6,hgF⟩|⟨z6,e6,rfl⟩
         ·cases hgF
          obtain⟨n',ds',es',hx',hi',hg',_,rfl⟩:=jex (show putL (gStL j (.int (c0+d0))) (.obj n) _=some (.ok z6,Ω') from e6)
          cases hx'
          obtain⟨b1,t1,t2,ys,t3,t4⟩:=R4.sto.ats n _ hi'
          have qa:=l4 n ad q1
          rw[qa] at t1;cases t1
          unfold gStL at hg'
          cases hx:ixN ds'.length j with
          | none=>rw[hx] at hg';cases hg'
          | some m =>
           rw[hx] at hg'
           cases hg'
           obtain⟨w1,w2⟩:=R4.putL hi' qa t2 t3 (Reps.set (rep_int.mpr rfl) m t4)
           exact⟨c0,d0,rep_int.mp rv,rep_int.mp r4,ad,ys,j,m,q2,rep_int.mp r2,t3,by rw[t4.length];exact hx,k ρ4 S4 σ _ w1 (l1.trans (l2.trans l4)) (by rw[w2];exact v1.trans (v2.trans v4))⟩
         ·exact absurd (jex (jjq ▸ e6:putL (gStL j (.int (c0+d0))) _ _=_)) (fun ⟨_,_,_,_,_,_,h,_⟩=>by cases h)
        | _=>cases e5
       | _=>cases e5
      ·cases c<;>cases dd<;>cases e5
     ·exact⟨ρ₀,S₀,H₀,F,ρ2,S2,δ,_,R2,.error dd,_,e4,trivial⟩
    ·exact absurd (jlg e3) (fun ⟨_,_,_,_,_,_,_,_,h,_⟩=>by cases h)
   | _=>rcases MS.b_inv hgB with ⟨c,Ω3,e3,_⟩|⟨c,e3,_⟩<;>cases e3
  ·exact⟨ρ₀,S₀,H₀,F,ρ1,S1,δ,Ω1,R1,.error y,_,e2,trivial⟩
 ·exact⟨ρ₀,S₀,H₀,F,ρ,S,δ,Ω,R,.error x,_,e1,trivial⟩
end
noncomputable def forL(k:Nat→D→D)(g:DSt→MS Out)(h:D→DSt→Option DSt)(n:Nat):Nat→Nat→DSt→MS Out
 | 0,_,_=>fun _=>none
 | f+1,i,δ=>fun Ω=>match Ω[n]? with
  | some (.lst ds)=>match ds[i]? with
   | none=>some (.ok (.nx δ),Ω)
   | some d=>match h (k i d) δ with
    | none=>none
    | some δ1=>((g δ1).b fun o=>match o with
     | .nx δ2=>forL k g h n f (i+1) δ2
     | .ct δ2=>forL k g h n f (i+1) δ2
     | .bk δ2=>MS.p (.nx δ2)
     | .rt v=>MS.p (.rt v)) Ω
  | _=>none
noncomputable def runL(k:Nat→D→D)(g:DSt→MS Out)(h:D→DSt→Option DSt)(fuel:Nat)(δ:DSt):D→MS Out
 | .obj n=>forL k g h n fuel 0 δ
 | _=>fun _=>none
noncomputable def jr5(k:Nat→D→D)(fl:DSt→MS (List D))(h:D→DSt→Option DSt)(g:DSt→MS Out)(fuel:Nat):DSt→MS Out:=fun δ=>(fl δ).b fun xs=>match xs with
 | [x]=>(chkL x).b fun x=>runL k g h fuel δ x
 | _=>fun _=>none
theorem jwh{α:Type}{xs:List D}{m:D→MS α}{Ω:Sto}{r:Except XD α×Sto}(h:(match xs with|[x]=>m x|_=>fun _=>none:MS α) Ω=some r):∃ x,xs=[x]∧m x Ω=some r:=by
 cases xs with
 | nil=>cases h
 | cons x t =>
  cases t with
  | nil=>exact⟨x,rfl,h⟩
  | cons _ _=>cases h
noncomputable abbrev kEn:Nat→D→D:=fun i d=>.tup [.int i,d]
inductive ForLI(k:Nat→D→D)(g:DSt→MS Out)(h:D→DSt→Option DSt)(n f i:Nat)(δ:DSt)(Ω Ω':Sto)(r:Except XD Out):Prop
 | stop (ds:List D) (hn:Ω[n]? = some (.lst ds)) (hi:ds[i]? = none) (hr:r=.ok (.nx δ)) (ho:Ω'=Ω)
 | turn (ds:List D) (d:D) (δ1:DSt) (hn:Ω[n]? = some (.lst ds)) (hi:ds[i]? = some d) (hh:h (k i d) δ=some δ1) (hg:((g δ1).b fun o=>match o with
     | .nx δ2=>forL k g h n f (i+1) δ2
     | .ct δ2=>forL k g h n f (i+1) δ2
     | .bk δ2=>MS.p (.nx δ2)
     | .rt v=>MS.p (.rt v)) Ω=some (r,Ω'))
theorem jsd{k:Nat→D→D}{g:DSt→MS Out}{h:D→DSt→Option DSt}{n f i:Nat}{δ:DSt}{Ω Ω':Sto}{r:Except XD Out}(e:forL k g h n (f+1) i δ Ω=some (r,Ω')):ForLI k g h n f i δ Ω Ω' r:=by
 unfold forL at e
 cases hn:Ω[n]? with
 | none=>rw[hn] at e;cases e
 | some so =>
  rw[hn] at e
  cases so with
  | ins c fs=>cases e
  | tab _ _ _ _=>cases e
  | dct _=>cases e
  | lst ds =>
   dsimp only at e
   cases hi:ds[i]? with
   | none=>rw[hi] at e;cases e;exact .stop ds hn hi rfl rfl
   | some d =>
    rw[hi] at e
    dsimp only at e
    cases hh:h (k i d) δ with
    | none=>rw[hh] at e;cases e
    | some δ1=>rw[hh] at e;exact .turn ds d δ1 hn hi hh e
inductive FLInv(X:Cx)(O:List Nat)(ρ₀:Rho)(S₀:Addr→Bool)(H₀:Hp)(F:Addr→Bool)(ρ1:Rho)(H1:Hp)(m:DSt→MS Out)(r:Except XD Out)(Ω':Sto)(σ:St)(H:Hp):Prop
 | mk (ρ:Rho) (S:Addr→Bool) (δ:DSt) (Ω:Sto) (hR:RM ρ₀ S₀ H₀ F X.K X.mg O ρ S H σ δ Ω) (hl:RLe ρ1 ρ) (hs:Same H1 (hid H (fob (un F S) σ O))) (hf:m δ Ω=some (r,Ω'))
section
variable {X:Cx}{O B:List Nat}{a iter tg:Expr}{fo:DSt→MS D}{g:DSt→MS Out}{pos:Pos}
variable {fl:DSt→MS (List D)}
theorem js0{body:List Stmt}{ts:List Expr}{kk:Nat}{tp p:Pos}{h:D→DSt→Option DSt}{fuel:Nat}{pos':Pos}(hp:PassesOwn (model X.prog X.w) X.A X.env X.xe)(hc:X.calm=true)(hge:Gl X "enumerate")(hme:X.mg "enumerate"=none)(hi:MA X O [a] fl)(hg:DG X O (.Tuple ts kk tp) h)(hb:MSs X O O O body g)
  (hse:autoParam (starEach [a] X.env=[(false,eval a X.env)]) zau2._auto_1) (hs:autoParam (∀ x,foldedSetIterable (.Call (.Name "enumerate" p) [a] [] pos') X.env x=pure x) zau4._auto_1):MSt X O O B (.For (.Tuple ts kk tp) (.Call (.Name "enumerate" p) [a] [] pos') body [] pos) (jr5 kEn fl h g fuel):=by
 rintro pins s σ H Dn I ⟨ρ₀,S₀,H₀,F,ρ,S,δ,Ω,R,r,Ω',hgf,k⟩
 refine jq1 hp hc (jqw hge hme hi hse) hg hb hs pins s σ H Dn I ?_
 rcases MS.b_inv hgf with ⟨x,Ω1,e1,hgA⟩|⟨y,e1,rfl⟩
 ·refine⟨ρ₀,S₀,H₀,F,ρ,S,δ,Ω,R,.ok x,Ω1,e1,fun us ρ1 S1 H1 R1 l1 v1 rs1=>?_⟩
  obtain⟨x0,rfl,hgA⟩:=jwh hgA
  obtain⟨u,hu,r1⟩:=jhu rs1
  rcases MS.b_inv hgA with ⟨x',Ω1',e1',hgB⟩|⟨x',e1',_⟩
  ·obtain⟨n,ds0,rfl,hn0,hr0,rfl⟩:=jgh e1'
   cases hr0
   obtain⟨ad,q1,q2⟩:=rep_obj.mp r1
   obtain⟨ad',p1,p2,xs0,p3,p4⟩:=R1.sto.ats n _ hn0
   rw[q1] at p1;cases p1
   refine⟨ad,xs0,by rw[hu,q2],SqL.of p3,?_⟩
   have hgC:forL kEn g h n fuel 0 δ Ω1'=some (r,Ω'):=hgB
   refine⟨fun i m=>FLInv X O ρ₀ S₀ H₀ F ρ1 (hid H1 (fob (un F S1) σ O)) (forL kEn g h n m i) r Ω',⟨fuel,ρ1,S1,δ,Ω1',R1,RLe.refl _,Same.refl _,hgC⟩,?_⟩
   rintro i m σ' H' ⟨ρ',S',δ',Ω2,R',l',f',hr⟩
   cases m with
   | zero=>cases hr
   | succ m =>
    rcases jsd hr with ⟨ds,hn,hi',rfl,rfl⟩|⟨ds,d,δ1,hn,hi',hh,hg'⟩
    ·obtain⟨b,t1,t2,xs,t3,t4⟩:=R'.sto.ats n _ hn
     rw[l' n ad q1] at t1;cases t1
     exact .inl ⟨⟨xs,SqL.of t3,by rw[t4.length];exact List.getElem?_eq_none_iff.mp hi'⟩,k ρ' S' σ' H' R' (l1.trans l') (v1.trans f')⟩
    ·obtain⟨b,t1,t2,xs,t3,t4⟩:=R'.sto.ats n _ hn
     rw[l' n ad q1] at t1;cases t1
     obtain⟨v,w1,w2⟩:=t4.get hi'
     refine .inr ⟨⟨xs,v,SqL.of t3,w1⟩,FLInv X O ρ₀ S₀ H₀ F ρ1 (hid H1 (fob (un F S1) σ O)) (forL kEn g h n m (i+1)) r Ω',fun σ2 H2 q=>⟨m,Nat.lt_succ_self _,q⟩,fun x H2 y=>?_⟩
     obtain⟨T,z,hT,rfl,rfl,hx⟩:=y
     have hxv:z=v:=by
      have:=hx xs (SqL.of t3)
      rw[w1] at this;exact (Option.some.inj this).symm
     subst hxv
     have R2:=R'.mono (jal (o:=.tup [.int i,z]) hT)
     have f2:=f'.trans (jaf (G:=fob (un F S') σ' O) (jal (o:=.tup [.int i,z]) hT))
     have rt:Rep ρ' X.K (hid (upd H' T (.tup [.int i,z])) (fob (un F S') σ' O)) (.tup [.int i,d]) (.ref T):=jbc hT (R'.fresh hT) (Reps.cons (rep_int.mpr rfl) (Reps.cons w2 Reps.nil))
     refine⟨ρ',_,un F S',δ',.tup [.int i,d],δ1,R2.rs,rt,hh,fun σ3 ef R3=>?_⟩
     have R3':RM ρ₀ S₀ H₀ F X.K X.mg O ρ' S' (upd H' T (.tup [.int i,z])) σ3 δ1 Ω2:=R2.next R3 (by rw[ef];exact Same.refl _)
     rcases MS.b_inv hg' with ⟨o,Ω3,e3,hgD⟩|⟨y,e3,rfl⟩
     ·refine⟨ρ₀,S₀,H₀,F,ρ',S',δ1,Ω2,R3',.ok o,Ω3,e3,?_⟩
      rw[ef]
      cases o with
      | nx δ4=>exact fun ρ4 S4 σ4 H4 R4 l4 v4=>⟨ρ4,S4,δ4,Ω3,R4,l'.trans l4,f2.trans v4,hgD⟩
      | ct δ4=>exact fun ρ4 S4 σ4 H4 R4 l4 v4=>⟨ρ4,S4,δ4,Ω3,R4,l'.trans l4,f2.trans v4,hgD⟩
      | bk δ4=>cases hgD;exact fun ρ4 S4 σ4 H4 R4 l4 v4=>k ρ4 S4 σ4 H4 R4 (l1.trans (l'.trans l4)) (v1.trans (f2.trans v4))
      | rt v=>cases hgD;exact k
     ·exact⟨ρ₀,S₀,H₀,F,ρ',S',δ1,Ω2,R3',.error y,_,e3,trivial⟩
  ·exact absurd (jgh e1') (fun ⟨_,_,_,_,h,_⟩=>by cases h)
 ·exact⟨ρ₀,S₀,H₀,F,ρ,S,δ,Ω,R,.error y,_,e1,trivial⟩
end
noncomputable def jgx(h:D→DSt→Option DSt)(fe:DSt→MS D):List D→DSt→MS (List D)
 | [],_=>MS.p []
 | d::ds,δ=>match h d δ with
  | none=>fun _=>none
  | some δ1=>(fe δ1).b fun y=>(jgx h fe ds δ1).b fun ys=>MS.p (y::ys)
noncomputable def jBu(done:List D):Except XD (List D)→Except XD (List D)
 | .ok rest=>.ok (done++rest)
 | .error y=>.error y
inductive CEI(X:Cx)(ρ1:Rho)(S1:Addr→Bool)(H1 Hv:Hp)(G:Addr→Bool)(Dd:Addr)(T:Except XD (List D))(Ωe:Sto)(cd:DSt→MS (List D))(i:Nat)(σ:St)(H:Hp):Prop
 | mk (ρ:Rho) (S:Addr→Bool) (δ:DSt) (Ω:Sto) (done:List D) (zs:List V) (rr:Except XD (List D)) (hR:RM ρ S H G X.K X.mg [] ρ S H σ δ Ω) (hD:H Dd=some (.lst zs)) (hz:Reps ρ X.K (hid H (un G S)) done zs) (hlen:zs.length=i)
  (hc:cd δ Ω=some (rr,Ωe)) (hT:T=jBu done rr) (hv:Same Hv (hid H (un G S))) (hl:RLe ρ1 ρ) (hsm:∀ b o,S1 b=false→H1 b=some o→H b=some o) (hold:∀ b,S1 b=true→S b=true) (hnew:∀ b,S b=true→S1 b=true∨H1 b=none)
section
variable {ρ₀ ρ:Rho}{S₀ S F:Addr→Bool}{H₀ H:Hp}{K:PySem.W.Frag}{mg:Str→Option Value}{O:List Nat}{σ:St}{δ:DSt}{Ω:Sto}
theorem RM.here(R:RM ρ₀ S₀ H₀ F K mg [] ρ S H σ δ Ω):RM ρ S H F K mg [] ρ S H σ δ Ω :=
 ⟨R.rs,RLe.refl _,fun _ _ _ h=>h,fun _ h=>h,fun _ h=>.inl h,fun i hi=>absurd hi (by simp),R.ff,R.sto⟩
theorem RM.updG(R:RM ρ₀ S₀ H₀ F K mg [] ρ S H σ δ Ω){a:Addr}{zs:List V}(h:F a=true):RM ρ S (upd H a (.lst zs)) F K mg [] ρ S (upd H a (.lst zs)) σ δ Ω:=by
 have hF:un F S a=true:=un_t.mpr (.inl h)
 refine⟨R.rs.updF hF,RLe.refl _,fun _ _ _ h=>h,fun _ h=>h,fun _ h=>.inl h,fun i hi=>absurd hi (by simp),R.ff,?_⟩
 rw[ja3,jcz hF]
 have s:=R.sto
 rw[ja3] at s
 refine s.mono (fun b hb=>jaj ?_) (Same.refl _) (jf8 s.tv fun _ z=>nomatch z)
 rintro rfl
 rw[R.ff b h] at hb;cases hb
end
section
variable {X:Cx}{O:List Nat}{elt iter tg:Expr}{fe:DSt→MS D}{fi:DSt→MS (List D)}{pos:Pos}
end
end DL
namespace L2
open PySem PySem.Spec PyProof.Rows
section
variable {prog:Program}{w:World}{A:Around}{E:Value→Shared→Prop}{s:Shared}
inductive RgEnd(s:Shared)(n:Nat)(q:Result)(s':Shared):Prop
 | mk (h':Heap) (tk:Nat) (acc:Array Value) (c:Nat) (e1:q=.ok (.ret (.ref s.heap.objs.size))) (e2:s'={ s with heap:=h',toks:=tk }) (k:∀ b o,s.heap.get? b=some o→h'.get? b=some o)
   (at':h'.get? s.heap.objs.size=some { cls:=.type "list",dict:=none,data:=.seq acc c,slots:=#[] }) (got:ItemsOf (fun i v=>∃ t,v=Value.int ((0:Int)+i*1) t) acc n)
end
open Att
noncomputable def juf{α:Type}(c:Nat→Nat→Bool):PySem.W.KasT α→α
 | .ret a=>a
 | .ask i j k=>juf c (k (c i j))
noncomputable def jsl{α:Type}(n:Nat):PySem.W.KasT α→Bool
 | .ret _=>true
 | .ask i j k=>decide (i<n)&&decide (j<n)&&jsl n (k true)&&jsl n (k false)
noncomputable def joc(keys:List Int)(n:Nat):List Nat:=(juf (fun i j=>decide (keys.getD i 0<keys.getD j 0)) (PySem.W.kas_sort n)).toList
section
variable {prog:Program}{w:World}{A:Around}{E:Value→Shared→Prop}{s:Shared}{L:Addr}{m:Str→Option Value}{h h1 h2 g:Heap}
structure Lk(L:Addr)(m:Str→Option Value)(h h':Heap):Prop where
 k:∀ b o,b≠L→h.get? b=some o→h'.get? b=some o
 ns:h'.Ns L m
theorem frN(n:h.Ns L m):Fr (jim g) L h m:=⟨n,fun b o e=>(by rw[jf0] at e;cases e),Nat.zero_le _⟩
theorem jzi{d:Addr}{od:Obj}(hne:d≠L)(ho:h.get? d=some od):News (jim g) L h ((d,od)::jii h L d):=by
 rintro⟨a,o⟩ hp
 rcases List.mem_cons.mp hp with e|hp
 ·cases e
  exact⟨ho,hne,jf0 _ _⟩
 ·obtain⟨n1,n2,e⟩:=mem_ledger.mp hp
  exact⟨e,n1,jf0 _ _⟩
theorem updN{d:Addr}{o:Obj}:PySem.W.UpdF d o ((d,o)::jii h L d) (fun o'=>(d,o')::jii h L d):=.head fun ⟨_,_⟩ hp=>(mem_ledger.mp hp).2.1
theorem ofN{d:Addr}{od:Obj}(N:News (jim g) L h1 ((d,od)::jii h L d)):h1.get? d=some od∧∀ b o,b≠L→b≠d→h.get? b=some o→h1.get? b=some o :=
 ⟨(N _ (.head _)).1,fun b o n1 n2 e=>(N (b,o) (.tail _ (mem_ledger.mpr ⟨n1,n2,e⟩))).1⟩
end
section
variable {P:Program}{w:World}{H:Hp}{h:Heap}{a:Addr}{o:HO}
theorem ObjOk.here(x:ObjOk P w H h a o):∃ ob,h.get? a=some ob:=by
 cases o with
 | lst xs=>obtain⟨_,_,_,_,e⟩:=x;exact⟨_,e⟩
 | tup xs=>obtain⟨_,_,_,o,e,_⟩:=x;exact⟨_,e⟩
 | dK kvs=>obtain⟨_,_,_,_,o,_,_,e,_⟩:=x;exact⟨_,e⟩
 | dT kvs=>obtain⟨_,_,_,_,o,_,_,e,_⟩:=x;exact⟨_,e⟩
 | set S n=>obtain⟨o,_,_,_,e,_⟩:=x;exact⟨_,e⟩
 | ins C dx fs=>obtain⟨_,_,_,e,_⟩:=x;exact⟨_,e⟩
 | own y=>exact x
 | xd fs=>obtain⟨_,⟨_,_,_,e,_⟩,_⟩:=x;exact⟨_,e⟩
 | rng lo hi=>obtain⟨_,_,_,e⟩:=x;exact⟨_,e⟩
 | frz ob u=>obtain⟨e,_⟩:=x;exact⟨_,e⟩
 | tbl ps=>exact⟨_,x⟩
 | met f y=>exact⟨_,x⟩
 | ext φ=>exact x.2.1
end
section
variable {X:Cx}{pins:List (Addr×Obj)}{σ:St}{H:Hp}{s:Shared}{h':Heap}{m:Str→Option Value}
theorem Inv.laidL{D:Addr}{xs:List V}{vs:List Value}{c t':Nat}(I:Inv X pins σ H s)(lk:Lk X.env.locals m s.heap h')(hm:s.heap.Ns X.env.locals m)(hD:s.heap.get? D=none)(eD:h'.get? D=some (seqObj "list" vs.toArray c))(r:Vals xs vs)
  (hz:xs.length≤sizeLine):Inv X pins σ (upd H D (.lst xs)) { s with heap:=h',toks:=t' }:=by
 have hn:H D=none:=by
  cases e:H D with
  | none=>rfl
  | some u=>obtain⟨o,q⟩:=(I.hok D u e).here;rw[hD] at q;cases q
 have nD:∀ b o,s.heap.get? b=some o→b≠D:=fun b o e z=>by rw[z,hD] at e;cases e
 have nD':∀ b u,H b=some u→b≠D:=fun b u e z=>by rw[z,hn] at e;cases e
 have nL:∀ b u,H b=some u→b≠X.env.locals:=fun b u e z=>by rw[z,I.free] at e;cases e
 refine I.step (g':=s.gens) (d':=s.drawn) (ch:=[]) (fun _ z=>nomatch z) (fun b o n _ _ e _=>lk.k b o n e) (fun b o n _ _ e _=>⟨o.slots,lk.k b o n e⟩) (fun b o _ e n=>by rw[jaj (nD b o e)];exact n) (fun b o _ e=>?_)
  (fun b ys e=>by rw[jaj (nD' b _ e)];exact e) (fun b o u e=>by rw[jaj (nD' b _ e)];exact e) (fun b ps e=>⟨#[],by rw[jaj (nD' b _ e),e];simp⟩) (fun m' hm'=>?_) (fun b u e=>?_) I.bare
 ·by_cases z:b=X.env.locals
  ·obtain⟨o',_,_,q,_⟩:=lk.ns
   rw[z];exact⟨o',q⟩
  ·exact⟨o,lk.k b o z e⟩
 ·rw[hm'.eq_nsMap,← hm.eq_nsMap];exact lk.ns
 ·by_cases z:b=D
  ·subst z
   rw[jag] at e
   cases e
   exact⟨hz,vs,c,r,eD⟩
  ·rw[jaj z] at e
   refine (I.hok b u e).stay (fun c v hc' q=>lk.k c v ?_ q) (fun c q=>by rw[jaj (nD' c _ q)];exact q) fun c xs q=>by rw[jaj (nD' c _ q)];exact q
   rcases hc' with r|r
   ·rw[r];exact nL b u e
   ·exact nL c _ r
end
end L2
namespace DL
open PySem PySem.Spec L2
section
variable {ρ₀ ρ ρ':Rho}{S₀ S S' F:Addr→Bool}{H₀ H H1 H':Hp}{K:PySem.W.Frag}{mg:Str→Option Value}{O O' B:List Nat}{σ σ':St}{δ δ':DSt}{Ω Ω':Sto}
end
inductive CdOf(K:PySem.W.Frag)(mg:Str→Option Value)(x:Str)(cdv:Value):Prop
 | mk (f:Addr) (oc:Value) (od:Option Addr) (fd:FuncData) (osl:Array (Option Value)) (h1:mg x=some (.ref f)) (h2:K.lookup f=some ⟨oc,od,.func fd,osl⟩) (h3:fd.code=cdv)
noncomputable def ordD(n:Int)(rs:List D):Option (List D):=match jyq rs with
 | some ks=>if 2≤n∧n<64∧(ks.length:Int)=n∧jsl n.toNat (PySem.W.kas_sort n.toNat)=true∧(joc (ks.map fun k=>-k) n.toNat).all (fun i=>decide (i<n.toNat))=true∧(joc (ks.map fun k=>-k) n.toNat).length≤64 then
   some ((joc (ks.map fun k=>-k) n.toNat).map fun i=>.int (Int.ofNat i)) else none
 | none=>none
inductive SortI(x:Str)(l c:Nat)(q:Str)(ir:Nat)(δ:DSt)(ds:List D)(Ω Ω':Sto)(r:Except XD D):Prop
 | mk (n:Int) (rs es:List D) (h1:ds=[.int n]) (h2:δ[ir]? = some (some (.lst rs))) (h3:Ω[0]? = some (.tab x l c q)) (h4:ordD n rs=some es) (h5:r=.ok (.lst es)) (h6:Ω'=Ω)
inductive OrdI(n:Int)(rs es:List D):Prop
 | mk (N:Nat) (ks:List Int) (h1:n=N) (h2:rs=ks.map .int) (h3:2≤N) (h4:N<64) (h5:ks.length=N) (h6:jsl N (PySem.W.kas_sort N)=true) (h7:∀ i∈joc (ks.map fun k=>-k) N,i<N) (h8:(joc (ks.map fun k=>-k) N).length≤64) (h9:es=(joc (ks.map fun k=>-k) N).map fun i=>.int (Int.ofNat i))
end DL
namespace DL
open PySem PySem.Spec PyProof.Rows L2
section
variable {X:Cx}{O:List Nat}
end
section
variable {P:Program}{w:World}{K:PySem.W.Frag}{mg:Str→Option Value}{base:Heap}
end
noncomputable def jvh(T:Addr)(K:PySem.W.Frag):PySem.W.Frag:=K.filter fun p=>!(p.1 == T)
section
variable {K:PySem.W.Frag}{T a:Addr}
variable (hT:K.lookup T=some ⟨.none,none,.fields #[],#[]⟩)
include hT
end
inductive LawT(P:Program)(w:World)(K:PySem.W.Frag)(mg:Str→Option Value)(n k:Nat)(x:Str)(fa:Addr):Prop
 | mk (T c:Addr) (fd:FuncData) (sp:Sp) (h1:K.lookup T=some ⟨.none,none,.fields #[],#[]⟩) (h2:PySem.W.codeHdIn K c T=true) (h3:∀ (s:Shared) (u:Value),BindsTo s fd ⟨[u],[]⟩ [(x,u)])
   (h4:∀ base:Heap,(jvh T K).In base→base.Ns mainGlobals mg→FnOk P w (jvh T K) mg base CX0 k fa fd [x] sp)
   (h5:∀ (H:Hp) (a:Addr) (ns:List Int),ns.length≤n→H T=some (.tbl #[])→SqL (jvh T K) H a (ns.map V.int)→sp [.ref a] H (fun v _=>v=.bl true) fun _ _ _=>False)
section
variable {X:Cx}{O B:List Nat}{E:XK}{elt tg iter e:Expr}{pos:Pos}{fa fb:DSt→M D}
end
end DL
namespace L2
open PySem PySem.Spec PyProof.Rows
end L2
namespace DL
open PySem PySem.Spec PyProof.Rows L2
noncomputable def orA(G:Addr→Bool)(l:Addr):Addr→Bool:=fun b=>G b || b == l
inductive spF(K:PySem.W.Frag)(mg:Str→Option Value)(n:Nat)(m:List D→MS D)(vs:List V)(H:Hp)(Q:VK)(E:XK):Prop
 | mk (hn:vs.length=n) (ρ:Rho) (S F:Addr→Bool) (ds:List D) (Ω:Sto) (hF:∀ b,F b=true→H b≠none) (hS:∀ b,F b=true→S b=false) (hr:Reps ρ K (hid H (un F S)) ds vs) (hs:StoOk ρ S K mg H (hid H (un F S)) Ω) (es:List D) (Ω':Sto) (hf:m ds Ω=some (.ok (.lst es),Ω'))
   (k:∀ (l:Addr) zs ρ' S' H',RLe ρ ρ'→(∀ b o,S b=false→H b=some o→H' b=some o)→(∀ b,S b=true→S' b=true)→(∀ b,S' b=true→S b=true∨H b=none)→(∀ b,F b=true→S' b=false)→StoOk ρ' S' K mg H' (hid H' (orA (un F S') l)) Ω' →
    H l=none→H' l=some (.lst zs)→S' l=false→Reps ρ' K (hid H' (orA (un F S') l)) es zs→Q (.ref l) H')
structure CalF(P:Program)(w:World)(K:PySem.W.Frag)(mg:Str→Option Value)(base:Heap)(k:Nat)(x:Str)(n:Nat)(m:List D→MS D):Prop where
 ex:CalX P w K mg base k x n (spF K mg n m)
 ar:∀ ds Ω r,m ds Ω=some r→ds.length=n
 ls:∀ ds Ω r Ω',m ds Ω=some (r,Ω')→∃ es,r=.ok (.lst es)
inductive PickF(i:Nat)(q:Option (Except XD Out×Sto))(es:List D)(Ω':Sto):Prop
 | mk (δ':DSt) (h1:q=some (.ok (.nx δ'),Ω')) (h2:δ'[i]? = some (some (.lst es)))
section
variable {P:Program}{w:World}{K:PySem.W.Frag}{mg:Str→Option Value}{base:Heap}
end
section
variable {X:Cx}{O B:List Nat}{e:Expr}{es:List Expr}{fl:DSt→MS (List D)}{pos:Pos}{k n:Nat}
end
end DL
namespace L2
open PySem PySem.Spec PyProof.Rows
open Att
section
variable {prog:Program}{w:World}{A:Around}{E:Value→Shared→Prop}{s:Shared}{L:Addr}{m:Str→Option Value}
inductive TpAt(h:Heap)(v:Value)(ns:List Int):Prop
 | mk (a:Addr) (its:Array Value) (e:v=.ref a) (h1:IsTup h a its) (h2:IntsAre its.toList ns)
end
end L2
namespace DL
open PySem PySem.Spec PyProof.Rows L2
section
variable {X:Cx}{O B:List Nat}{E:XK}{e:Expr}{pos:Pos}{fa fb:DSt→M D}
inductive TupV(K:PySem.W.Frag)(H:Hp)(v:V)(t:List Int):Prop
 | mk (a:Addr) (e:v=.ref a) (h:SqT K H a (t.map V.int))
theorem vals_pick{xs:List V}{its:List Value}(r:Vals xs its):∀ (p:List Nat),(∀ i∈p,i<xs.length)→Vals (p.map fun i=>xs.getD i .non) (p.map fun i=>its.getD i Value.none)
 | [],_=>.nil
 | i::p,h=>by
  refine .cons ?_ (vals_pick r p fun j hj=>h j (.tail _ hj))
  have hi:=h i (.head _)
  obtain⟨u,e,q⟩:=r.get (List.getElem?_eq_getElem hi)
  show RelV (xs.getD i .non) (its.getD i Value.none)
  rw[List.getD_eq_getElem?_getD,List.getD_eq_getElem?_getD,e,List.getElem?_eq_getElem hi]
  exact q
theorem jk1{ρ:Rho}{K:PySem.W.Frag}{H:Hp}{ds:List D}{xs:List V}(r:Reps ρ K H ds xs):∀ (p:List Nat),(∀ i∈p,i<ds.length)→Reps ρ K H (p.map fun i=>ds.getD i .non) (p.map fun i=>xs.getD i .non)
 | [],_=>Reps.nil
 | i::p,h=>by
  have hi:=h i (.head _)
  obtain⟨u,e,q⟩:=r.get (List.getElem?_eq_getElem hi)
  rw[List.map_cons,List.map_cons]
  refine Reps.cons ?_ (jk1 r p fun j hj=>h j (.tail _ hj))
  rw[List.getD_eq_getElem?_getD,List.getD_eq_getElem?_getD,e,List.getElem?_eq_getElem hi]
  exact q
end
noncomputable def jy3(fa fb:DSt→MS D):DSt→MS D:=fun δ=>(fa δ).b fun x=>match x with
 | .bl true=>fb δ
 | .bl false=>MS.p (.bl false)
 | _=>fun _=>none
section
variable {X:Cx}{O:List Nat}{a b:Expr}{rest:List Expr}{pos:Pos}{fa fb:DSt→MS D}
theorem jy6{op}(h:ME X O a fa):ME X O (.BoolOp op [a] pos) fa:=fun pins s σ H Q I hw=>jzw h pins s σ H Q I hw
theorem jy5(ha:ME X O a fa)(hb:ME X O (.BoolOp .And (b::rest) pos) fb):ME X O (.BoolOp .And (a::b::rest) pos) (jy3 fa fb):=by
 rintro pins s σ H Q I ⟨ρ₀,S₀,H₀,F,ρ,S,δ,Ω,R,r,Ω',hf,k⟩
 refine jzp ha hb pins s σ H Q I ?_
 rcases MS.b_inv hf with ⟨x,Ω1,e1,hf⟩|⟨x,e1,rfl⟩
 ·refine⟨ρ₀,S₀,H₀,F,ρ,S,δ,Ω,R,.ok x,Ω1,e1,fun u ρ1 S1 H1 R1 l1 v1 r1=>?_⟩
  cases x with
  | bl z =>
   refine⟨z,rep_bl.mp r1,?_⟩
   cases z with
   | true =>
    refine iteT ⟨ρ₀,S₀,H₀,F,ρ1,S1,δ,Ω1,R1,r,Ω',hf,?_⟩
    cases r with
    | ok d=>exact fun v ρ2 S2 H2 R2 l2 v2 r2=>k v ρ2 S2 H2 R2 (l1.trans l2) (v1.trans v2) r2
    | error y=>trivial
   | false =>
    refine iteF ?_
    cases hf
    exact k _ ρ1 S1 H1 R1 l1 v1 (rep_bl.mpr rfl)
  | _=>cases hf
 ·exact⟨ρ₀,S₀,H₀,F,ρ,S,δ,Ω,R,.error x,_,e1,trivial⟩
end
end DL
namespace L2
open PySem PySem.Spec PyProof.Rows
section
variable {κ:Type}[DecidableEq κ]
noncomputable def valV(kvs:List (κ×V))(k:κ):Option V:=(kvs.find? fun kv=>decide (kv.1=k)).map (·.2)
noncomputable def putK(kvs:List (κ×V))(k:κ)(v:V):List (κ×V) :=
 if (kvs.any fun kv=>decide (kv.1=k))=true then kvs.map (fun kv=>if kv.1=k then (kv.1,v) else kv) else kvs++[(k,v)]
noncomputable def jey(kvs:List (κ×V))(k:κ):List (κ×V):=kvs.filter fun kv=>decide (kv.1≠k)
theorem jgn{p:κ×V}{r:List (κ×V)}{k:κ}(e:p.1=k):valV (p::r) k=some p.2:=by simp[valV,List.find?_cons,e]
theorem jgm{p:κ×V}{r:List (κ×V)}{k:κ}(e:¬ p.1=k):valV (p::r) k=valV r k:=by simp[valV,List.find?_cons,e]
theorem jju(k:κ):∀ kvs:List (κ×V),(kvs.any fun kv=>decide (kv.1=k))=(valV kvs k).isSome
 | []=>rfl
 | p::r=>by
  rw[List.any_cons]
  by_cases e:p.1=k
  ·simp only[jgn e,decide_eq_true e,Bool.true_or,Option.isSome_some]
  ·rw[jgm e,decide_eq_false e,Bool.false_or];exact jju k r
theorem jhh(kvs:List (κ×V))(k:κ)(v:V):(putK kvs k v).length≤kvs.length+1:=by
 unfold putK
 split
 ·rw[List.length_map];omega
 ·rw[List.length_append,List.length_cons,List.length_nil];omega
theorem jtm{kvs:List (κ×V)}{k:κ}(v:V)(h:valV kvs k=none):putK kvs k v=kvs++[(k,v)]:=by
 unfold putK
 rw[jju,h]
 exact if_neg (by decide)
theorem RelO.isSome_eq{o:Option V}{u:Option Value}(r:RelO o u):o.isSome=u.isSome:=by
 cases o with
 | none=>cases u with
  | none=>rfl
  | some _=>exact (show False from r).elim
 | some _=>cases u with
  | none=>exact (show False from r).elim
  | some _=>rfl
theorem RelO.getD{o:Option V}{u:Option Value}{d:V}{d':Value}(r:RelO o u)(rd:RelV d d'):RelV (o.getD d) (u.getD d'):=by
 cases o with
 | none=>cases u with
  | none=>exact rd
  | some _=>exact (show False from r).elim
 | some _=>cases u with
  | none=>exact (show False from r).elim
  | some _=>exact r
theorem KV.val{kvs:List (κ×V)}{vs:List (κ×Value)}(r:KV kvs vs)(k:κ):RelO (valV kvs k) (valueAt vs k):=by
 unfold KV at r
 induction r with
 | nil=>exact True.intro
 | @cons p q ps qs h t ih =>
  obtain⟨h1,h2⟩:=h
  by_cases e:p.1=k
  ·have e':q.1=k:=h1.symm.trans e
   have b:valueAt (q::qs) k=some q.2:=by simp[valueAt,List.find?_cons,e']
   rw[jgn e,b];exact h2
  ·have e':¬ q.1=k:=fun z=>e (h1.trans z)
   have b:valueAt (q::qs) k=valueAt qs k:=by simp[valueAt,List.find?_cons,e']
   rw[jgm e,b];exact ih
theorem KV.any{kvs:List (κ×V)}{vs:List (κ×Value)}(r:KV kvs vs)(k:κ):(kvs.any fun kv=>decide (kv.1=k))=vs.any fun kv=>decide (kv.1=k):=by
 unfold KV at r
 induction r with
 | nil=>rfl
 | cons h t ih=>rw[List.any_cons,List.any_cons,ih,h.1]
theorem KV.repl{kvs:List (κ×V)}{vs:List (κ×Value)}(r:KV kvs vs)(k:κ){y:V}{u:Value}(ry:RelV y u) :
  KV (kvs.map fun kv=>if kv.1=k then (kv.1,y) else kv) (vs.map fun kv=>if kv.1=k then (kv.1,u) else kv):=by
 unfold KV at r ⊢
 induction r with
 | nil=>exact .nil
 | @cons p q ps qs h t ih =>
  rw[List.map_cons,List.map_cons]
  refine .cons ?_ ih
  obtain⟨h1,h2⟩:=h
  by_cases e:p.1=k
  ·rw[if_pos e,if_pos (h1.symm.trans e)];exact⟨h1,ry⟩
  ·rw[if_neg e,if_neg (fun z=>e (h1.trans z))];exact⟨h1,h2⟩
theorem KV.put{kvs:List (κ×V)}{vs:List (κ×Value)}(r:KV kvs vs)(k:κ){y:V}{u:Value}(ry:RelV y u):KV (putK kvs k y) (stored vs k u):=by
 unfold putK stored
 rw[r.any k]
 by_cases e:(vs.any fun kv=>decide (kv.1=k))=true
 ·rw[if_pos e,if_pos e];exact r.repl k ry
 ·rw[if_neg e,if_neg e];exact Paired.snoc r ⟨rfl,ry⟩
theorem KV.length{kvs:List (κ×V)}{vs:List (κ×Value)}(r:KV kvs vs):kvs.length=vs.length:=Paired.length r
theorem jms(kvs:List (κ×V))(k:κ):(jey kvs k).length≤kvs.length:=List.length_filter_le _ _
end
theorem jvx{P:Program}{w:World}{k:Key}{u:Value}(r:RelV (kV k) u):(jbo P w).is k u=true:=by
 cases k with
 | inl i=>obtain⟨t,e⟩:=(show ∃ t,u=Value.int i t from r);subst e;exact jl1 P w i t
 | inr x=>obtain⟨t,e⟩:=(show ∃ t,u=Value.str x t from r);subst e;exact jl2 P w x t
theorem jhc{P:Program}{w:World}:∀ {ks:List Key} {us:List Value},Vals (ks.map kV) us→ItemsAre (jbo P w) ks us
 | [],_,r=>by rw[List.map_nil] at r;cases r;exact .nil
 | k::ks,_,r=>by
  rw[List.map_cons] at r
  cases r with
  | cons h t=>exact .cons (jvx h) (jhc t)
noncomputable abbrev KT(H:Hp):List (List Key×V)→List (List Key×Addr×Value)→Prop:=Paired fun p q=>p.1=q.1∧H q.2.1=some (.tup (p.1.map kV))∧RelV p.2 q.2.2
theorem KT.val{H:Hp}{kvs:List (List Key×V)}{xs:List (List Key×Addr×Value)}(r:KT H kvs xs)(k:List Key):RelO (valV kvs k) ((atKey xs k).map (·.2)):=by
 induction r with
 | nil=>exact True.intro
 | @cons p q ps qs h t ih =>
  obtain⟨h1,_,h2⟩:=h
  by_cases e:p.1=k
  ·have e':q.1=k:=h1.symm.trans e
   have b:atKey (q::qs) k=some q.2:=by simp[atKey,List.find?_cons,e']
   rw[jgn e,b];exact h2
  ·have e':¬ q.1=k:=fun z=>e (h1.trans z)
   have b:atKey (q::qs) k=atKey qs k:=by simp[atKey,List.find?_cons,e']
   rw[jgm e,b];exact ih
theorem KT.repl{H:Hp}{kvs:List (List Key×V)}{xs:List (List Key×Addr×Value)}(r:KT H kvs xs)(k:List Key){y:V}{u:Value}(ry:RelV y u) :
  KT H (kvs.map fun kv=>if kv.1=k then (kv.1,y) else kv) (xs.map (putAt k u)):=by
 induction r with
 | nil=>exact .nil
 | @cons p q ps qs h t ih =>
  rw[List.map_cons,List.map_cons]
  refine .cons ?_ ih
  obtain⟨h1,h2,h3⟩:=h
  unfold putAt
  by_cases e:p.1=k
  ·rw[if_pos e,if_pos (h1.symm.trans e)];exact⟨h1,h2,ry⟩
  ·rw[if_neg e,if_neg (fun z=>e (h1.trans z))];exact⟨h1,h2,h3⟩
theorem KT.put{H:Hp}{kvs:List (List Key×V)}{xs:List (List Key×Addr×Value)}(r:KT H kvs xs)(k:List Key){b:Addr}{y:V}{u:Value}(hb:H b=some (.tup (k.map kV)))(ry:RelV y u) :
  KT H (putK kvs k y) (storedH xs k b u):=by
 have e:(kvs.any fun kv=>decide (kv.1=k))=(atKey xs k).isSome:=by
  rw[jju,(r.val k).isSome_eq,Option.isSome_map]
 unfold putK storedH
 rw[e]
 by_cases q:(atKey xs k).isSome=true
 ·rw[if_pos q,if_pos q];exact r.repl k ry
 ·rw[if_neg q,if_neg q];exact Paired.snoc r ⟨rfl,hb,ry⟩
theorem KT.keeps{H H':Hp}{kvs:List (List Key×V)}{xs:List (List Key×Addr×Value)}(r:KT H kvs xs)(ht:∀ b ys,H b=some (.tup ys)→H' b=some (.tup ys)):KT H' kvs xs :=
 Paired.mapP r fun _ _ z=>⟨z.1,ht _ _ z.2.1,z.2.2⟩
section
variable {P:Program}{w:World}{H:Hp}{h:Heap}{a:Addr}
theorem jAa{u:HO}(ok:HOk P w H h)(e:Rd H a u):ObjOk P w H h a u:=e.ok ok
theorem jvg{kvs:List (Key×V)}(ok:HOk P w H h)(e:Rd H a (.dK kvs)):kvs.length≤sizeLine∧(a == sysModules)=false∧∃ vs,KV kvs vs∧h.DictOf (jbo P w) a vs :=
 show ObjOk P w H h a (.dK kvs) from jAa ok e
theorem jBh{kvs:List (Key×V)}(ok:HOk P w H h)(e:H a=some (.dK kvs)):kvs.length≤sizeLine∧(a == sysModules)=false∧∃ vs,KV kvs vs∧h.DictOf (jbo P w) a vs:=jvg ok (.inl e)
theorem jkj{ks:List Key}(ok:HOk P w H h)(e:H a=some (.tup (ks.map kV))):(tupleKind (jbo P w)).is h ks a:=by
 obtain⟨_,its,r,o,h1,h2,n,h3⟩:=(show ObjOk P w H h a (.tup (ks.map kV)) from ok a _ e)
 exact⟨o,its.toArray,n,h1,h2,h3,by simpa using jhc r⟩
theorem jvl{kvs:List (List Key×V)}(ok:HOk P w H h)(e:Rd H a (.dT kvs)):kvs.length≤sizeLine∧(a == sysModules)=false ∧
  ∃ xs,KT H kvs xs∧h.DictOfH (tupleKind (jbo P w)) a xs:=by
 obtain⟨z,y,xs,r,o,es,ep,h1,h2,h3,h4,h5⟩:=(show ObjOk P w H h a (.dT kvs) from jAa ok e)
 refine⟨z,y,xs,r,o,es,ep,h1,h2,h3,h4,fun x hx=>?_,h5⟩
 have all:∀ {l:List (List Key×V)} {m:List (List Key×Addr×Value)},KT H l m→∀ x∈m,(tupleKind (jbo P w)).is h x.1 x.2.1:=by
  intro l m q
  induction q with
  | nil=>intro x hx;exact nomatch hx
  | @cons p q ps qs hq t ih =>
   intro x hx
   rcases List.mem_cons.mp hx with e|hx
   ·subst e
    exact jkj ok (by rw[← hq.1];exact hq.2.1)
   ·exact ih x hx
 exact all r x hx
theorem jnq{kvs:List (List Key×V)}(ok:HOk P w H h)(e:H a=some (.dT kvs)):kvs.length≤sizeLine∧(a == sysModules)=false ∧
  ∃ xs,KT H kvs xs∧h.DictOfH (tupleKind (jbo P w)) a xs:=jvl ok (.inl e)
end
noncomputable def DGet(H:Hp)(a:Addr)(y:V)(r:Option V):Prop :=
 (∃ kvs k,Rd H a (.dK kvs)∧y=kV k∧r=valV kvs k)∨∃ kvs k b,Rd H a (.dT kvs)∧y=.ref b∧H b=some (.tup (k.map kV))∧r=valV kvs k
noncomputable def DPut(H:Hp)(a:Addr)(y v:V)(H':Hp):Prop :=
 (∃ kvs k,H a=some (.dK kvs)∧y=kV k∧kvs.length<sizeLine∧H'=upd H a (.dK (putK kvs k v))) ∨
 ∃ kvs k b,H a=some (.dT kvs)∧y=.ref b∧H b=some (.tup (k.map kV))∧kvs.length<sizeLine∧H'=upd H a (.dT (putK kvs k v))
theorem DGet.t{H:Hp}{a b:Addr}{kvs:List (List Key×V)}{k:List Key}(e:H a=some (.dT kvs))(eb:H b=some (.tup (k.map kV))):DGet H a (.ref b) (valV kvs k):=.inr ⟨kvs,k,b,.inl e,rfl,eb,rfl⟩
section
variable {X:Cx}{pins:List (Addr×Obj)}{σ:St}{H:Hp}{s:Shared}{a:Addr}{y v:V}{u r:Value}{o:Option V}{A:Around}{E:Value→Shared→Prop}
theorem Inv.big(I:Inv X pins σ H s):sysModules<s.heap.objs.size:=by
 have h:mainGlobals<s.heap.objs.size:=(I.mod.glob.keeps I.bk).lt
 exact Nat.lt_trans (by decide) h
theorem jgz{h':Heap}{t':Nat}{ob:HO}(I:Inv X pins σ H s)(mu:Mut (H a))(hs:Heap.SameBut a s.heap h')(he:∃ q,h'.get? a=some q)(new:ObjOk X.prog X.w (upd H a ob) h' a ob) :
  Inv X pins σ (upd H a ob) { s with heap:=h',toks:=t' } :=
 I.write (x:=a) (e:=a) mu (.inl rfl) (fun b q hb z=>(hs.2 b hb).trans z) he new
theorem jx2{P:Program}{w:World}{H':Hp}{h':Heap}{kvs:List (Key×V)}{vs:List (Key×Value)}(z:kvs.length≤sizeLine)(hd:(a == sysModules)=false)(rel:KV kvs vs)(dd:h'.DictOf (jbo P w) a vs) :
  ObjOk P w H' h' a (.dK kvs):=⟨z,hd,vs,rel,dd⟩
theorem jo5{H':Hp}{Q:Unit→Shared→Prop}(hu:A.units+1<cLine)(I:Inv X pins σ H s)(g:DPut H a y v H')(ry:RelV y u)(rv:RelV v r)(h:∀ s',Inv X pins σ H' s'→Q () s') :
  wpAny (model X.prog X.w) A (setItem (.ref a) u r) Q E s:=by
 rcases g with ⟨kvs,k,e,ey,l,eH⟩|⟨kvs,k,b,e,ey,eb,l,eH⟩
 ·subst ey eH
  obtain⟨z,hd,vs,rel,dd⟩:=jBh I.hok e
  have hz:vs.length≤sizeLine:=by rw[← rel.length];exact z
  have hl:(putK kvs k v).length≤sizeLine:=by have:=jhh kvs k v;omega
  refine wpAny_setItem_pairs (hsz:=hz) (jvx ry) dd fun h' dd' hs=>h _ ?_
  have he:∃ q,h'.get? a=some q:=let ⟨q,_,_,hq,_⟩:=dd';⟨q,hq⟩
  exact jgz I (by rw[e];exact True.intro) hs he (jx2 hl hd (rel.put k rv) dd')
 ·subst ey eH
  cases (show u=Value.ref b from ry)
  obtain⟨z,hd,xs,rel,dd⟩:=jnq I.hok e
  have hz:xs.length≤sizeLine:=by rw[← Paired.length rel];exact z
  have hl:(putK kvs k v).length≤sizeLine:=by have:=jhh kvs k v;omega
  refine wpAny_setItem_heap (hsz:=hz) (tupleKind_room_in1 hu) (jkj I.hok eb) dd fun h' dd' hs=>h _ ?_
  obtain⟨q,es,ep,hq,h2,h3,h4,_,h5⟩:=dd'
  refine jgz I (by rw[e];exact True.intro) hs ⟨q,hq⟩ ⟨hl,hd,_,(rel.put k eb rv).keeps fun c ys ec=>?_,q,es,ep,hq,h2,h3,h4,h5⟩
  rw[jaj (jl3 ec e (fun z=>nomatch z))]
  exact ec
end
section
variable {X:Cx}{pins:List (Addr×Obj)}{σ:St}{H:Hp}{s:Shared}{a:Addr}{kvs:List (Key×V)}{k:Key}{u:Value}{A:Around}{E:Value→Shared→Prop}
end
noncomputable def NoSl(i:Expr):Prop:=∀ ov iv,subscripted i false ov iv=operate [ov,iv] (getItem ov iv)
theorem jxc{prog:Program}{w:World}{A:Around}{E:Value→Shared→Prop}{s:Shared}{env:Env}{value slice:Expr}{pos:Pos}{T id:String}{Q:Value→Shared→Prop}
  (hl:typeLookup (.type T) "__getitem__"=pure (some (.builtin id))) (hs:NoSl slice)
  (h:wpAny (model prog w) A (eval value env) (fun o s₁=>wpAny (model prog w) A (eval slice env) (fun i s₂=>s₂.TypeIs o T∧wpAny (model prog w) A (getItem o i) Q E s₂) E s₁) E s) :
  wpAny (model prog w) A (eval (.Subscript value slice pos) env) Q E s:=by
 refine Subscript_ (wpAny_mono h (fun o s₁ h₁=>wpAny_mono h₁ (fun i s₂ h₂=>?_) fun _ _ x=>x) fun _ _ x=>x)
 obtain⟨hT,h₂⟩:=h₂
 unfold subscriptTail
 refine wpAny_bind ?_
 rw[getitemInPython_of_ne hT.not_modules]
 refine wpAny_bind (wpAny_specialOf hT hl ?_)
 have fin:wpAny (model prog w) A (subscripted slice false o i) (fun r s₃=>wpAny (model prog w) A (letTemporaryGo value o r >>= fun _=>pure r) Q E s₃) E s₂:=by
  rw[hs o i]
  exact wpAny_operating (wpAny_mono h₂ (fun r s₃ h₃=>wpAny_bind (wpAny_letTemporaryGo (wpAny_pure h₃))) fun _ _ x=>x)
 first
  | exact wpAny_pure (wpAny_bind fin)
  | exact wpAny_bind (wpAny_pure (wpAny_bind fin))
  | exact wpAny_bind fin
noncomputable def jCa(td ty tv:TE):TS:=fun D σ H=>tv σ H fun v H1=>td σ H1 fun x H2=>ty σ H2 fun y H3=>∃ a H4,x=.ref a∧DPut H3 a y v H4∧D.nx σ H4
section
variable {X:Cx}{o i e value:Expr}{pos pos' tpos:Pos}{td ty tv:TE}
theorem jwv(hu:X.A.units+1<cLine)(ho:PE X o td)(hi:PE X i ty)(hv:PE X value tv)(hs:swapsWith value (some (.Subscript o i pos')) pos.line X.env=pure false) :
  PS X (.Assign [.Subscript o i pos'] value pos) (jCa td ty tv):=by
 intro pins s σ H D I h
 refine wpAny_Assign_Subscript (thn (hv pins s σ H _ I h) fun r s1 ⟨v,H1,I1,rv,q1⟩=>thn (ho pins s1 σ H1 _ I1 q1) fun u s2 ⟨x,H2,I2,rx,q2⟩=>thn (hi pins s2 σ H2 _ I2 q2) fun iv s3 hzz=>?_) hs
 obtain⟨y,H3,I3,ry,a,H4,ex,g,q3⟩:=hzz
 subst ex
 obtain rfl:u=Value.ref a:=rx
 exact jo5 hu I3 g ry rv fun s4 I4=>⟨σ,H4,I4,q3⟩
end
theorem jr4{P:Program}{w:World}{H:Hp}(h:Heap)(hb:sysModules<h.objs.size):ObjOk P w H (h.push { cls:=.type "dict",data:=.dict #[] }) h.objs.size (.dT []) :=
 ⟨Nat.zero_le _,beq_eq_false_iff_ne.mpr (Ne.symm (Nat.ne_of_lt hb)),[],.nil,_,#[],0,Heap.get?_push_size _ rfl,⟨rfl,rfl,rfl⟩,rfl,rfl,List.nodup_nil⟩
noncomputable def jAp:TE:=fun _ H Q=>∀ p,H p=none→Q (.ref p) (upd H p (.dT []))
section
variable {X:Cx}{pos:Pos}
theorem jtc:PE X (.Dict [] [] pos) jAp:=fun pins s σ H Q I h =>
 wpAny_Dict_empty ⟨.ref s.heap.objs.size,_,I.laid (a:=s.heap.objs.size) (o:=.dT []) (t':=s.toks) (fun _ _ q=>Heap.get?_push_of_some _ q) (Nat.le_refl _) (jr4 s.heap I.big),rfl,h _ (I.hok.fresh (Nat.le_refl _))⟩
end
structure M1(X:Cx)(o:Expr)(m:Str)(apos:Pos)(e:Expr)(cpos:Pos):Prop where
 base:attributeBase o m X.env (eval o X.env)=eval o X.env
 few:((backTo cpos (starEach [e] X.env)).all (fun x=>!x.1)&&(backToKw cpos (keywordEach [] X.env)).all (fun x=>x.1.isSome)
  && decide (([e]:List Expr).length+([]:List Keyword).length+(if ([]:List Keyword).isEmpty then 0 else 1)<30))=true
 line:(apos.endLine == cpos.line)=true
 trees:backTo cpos (starEach [e] X.env)=[(false,eval e X.env)]
structure M2(X:Cx)(o:Expr)(m:Str)(apos:Pos)(e f:Expr)(cpos:Pos):Prop where
 base:attributeBase o m X.env (eval o X.env)=eval o X.env
 few:((backTo cpos (starEach [e,f] X.env)).all (fun x=>!x.1)&&(backToKw cpos (keywordEach [] X.env)).all (fun x=>x.1.isSome)
  && decide (([e,f]:List Expr).length+([]:List Keyword).length+(if ([]:List Keyword).isEmpty then 0 else 1)<30))=true
 line:(apos.endLine == cpos.line)=true
 trees:backTo cpos (starEach [e,f] X.env)=[(false,eval e X.env),(false,eval f X.env)]
noncomputable def IsD(H:Hp)(a:Addr):Prop:=(∃ kvs,Rd H a (.dK kvs))∨∃ kvs,Rd H a (.dT kvs)
theorem jmx{X:Cx}{pins:List (Addr×Obj)}{σ:St}{H:Hp}{s:Shared}{a:Addr}(I:Inv X pins σ H s)(d:IsD H a) :
  s.TypeIs (.ref a) "dict"∧(∀ b,Value.ref a=.ref b→∃ ob,s.heap.get? b=some ob∧ob.dict=none)∧(a == sysModules)=false:=by
 rcases d with ⟨kvs,e⟩|⟨kvs,e⟩
 ·obtain⟨_,hd,vs,_,dd⟩:=jvg I.hok e
  refine⟨dd.typeIs,fun b q=>?_,hd⟩
  cases q
  obtain⟨ob,_,_,h1,h2,_⟩:=dd
  exact⟨ob,h1,h2.2.1⟩
 ·obtain⟨_,hd,xs,_,dd⟩:=jvl I.hok e
  refine⟨dd.typeIs,fun b q=>?_,hd⟩
  cases q
  obtain⟨ob,_,_,h1,h2,_⟩:=dd
  exact⟨ob,h1,h2.2.1⟩
section
variable {X:Cx}{pins:List (Addr×Obj)}{σ:St}{H:Hp}{s:Shared}{a:Addr}{y d:V}{u r:Value}{o:Option V}{A:Around}{E:Value→Shared→Prop}
theorem jxy{Q:Value→Shared→Prop}(hu:A.units+1<cLine)(I:Inv X pins σ H s)(g:DGet H a y o)(ry:RelV y u)(h:∀ w' s',Inv X pins σ H s'→RelV (o.getD .non) w'→Q w' s') :
  wpAny (model X.prog X.w) A (call (.builtin "dict.get") [.ref a,u]) Q E s:=by
 rcases g with ⟨kvs,k,e,ey,l⟩|⟨kvs,k,b,e,ey,eb,l⟩
 ·subst ey
  obtain⟨z,hd,vs,rel,dd⟩:=jvg I.hok e
  refine call_meetsIn PySem.F.slot_dict_get dd.typeIs PySem.F.entry_dict_get (PySem.F.args_dict_get_2 _ _) (meets_dict_get (jbo X.prog X.w) a (jvx ry) hd) ⟨_,dd.mapOf,h _ _ (I.tok _) ?_⟩
  rw[l]
  exact (rel.val k).getD rfl
 ·subst ey
  cases (show u=Value.ref b from ry)
  obtain⟨z,hd,xs,rel,dd⟩:=jvl I.hok e
  refine call_meetsIn PySem.F.slot_dict_get dd.typeIs PySem.F.entry_dict_get (PySem.F.args_dict_get_2 _ _) (meetsH_dict_get (tupleKind (jbo X.prog X.w)) a b hd) ⟨tupleKind_room_in1 hu,k,xs,jkj I.hok eb,dd,h _ _ (I.tok _) ?_⟩
  rw[l]
  exact (rel.val k).getD rfl
end
noncomputable def jAn(td ty:TE):TE:=fun σ H Q=>td σ H fun x H1=>∃ a,x=.ref a∧IsD H1 a∧ty σ H1 fun y H2=>∃ o,DGet H2 a y o∧Q (o.getD .non) H2
section
variable {X:Cx}{o e f:Expr}{apos cpos:Pos}{td ty tx:TE}
theorem jta(hu:X.A.units+1<cLine)(ho:PE X o td)(he:PE X e ty)(m:M1 X o "get" apos e cpos):PE X (.Call (.Attribute o "get" apos) [e] [] cpos) (jAn td ty):=by
 intro pins s σ H Q I h
 refine wpAny_Call_method m.base m.few m.line PySem.F.plainAttrs_dict PySem.F.slot_dict_get PySem.F.type_dict_get (thn (ho pins s σ H _ I h) fun u s1 hzz=>?_)
 obtain⟨x,H1,I1,rx,a,ex,d,q1⟩:=hzz
 subst ex
 obtain rfl:u=Value.ref a:=rx
 obtain⟨t1,t2,_⟩:=jmx I1 d
 refine⟨t1,t2,?_⟩
 rw[m.trees]
 refine Calls.callWith_builtin rfl (Calls.evalArgs_plain (Calls.spliced_cons (thn (he pins s1 σ H1 _ I1 q1) fun iv s2 ⟨y,H2,I2,ry,ov,g,q2⟩=>Calls.spliced_nil ?_)))
 exact jxy hu I2 g ry fun w' s3 I3 rw'=>⟨_,H2,I3,rw',q2⟩
end
section
variable {X:Cx}{pins:List (Addr×Obj)}{σ:St}{H:Hp}{s:Shared}{a:Addr}{kvs:List (Key×V)}{A:Around}{E:Value→Shared→Prop}
end
section
variable {X:Cx}{pins:List (Addr×Obj)}{σ:St}{H:Hp}{s:Shared}{a:Addr}{y:V}{u:Value}{A:Around}{E:Value→Shared→Prop}
end
end L2
namespace Att
open PySem PySem.W PySem.Calls PyProof.Rows
end Att
namespace L2
open PySem PySem.Spec PyProof.Rows
section
variable {κ:Type}[DecidableEq κ]
theorem jkc{p:κ×V}{r:List (κ×V)}{k:κ}(e:p.1=k):jey (p::r) k=jey r k:=by
 unfold jey
 rw[List.filter_cons,if_neg (by simp[e])]
theorem jkb{p:κ×V}{r:List (κ×V)}{k:κ}(e:¬ p.1=k):jey (p::r) k=p::jey r k:=by
 unfold jey
 rw[List.filter_cons,if_pos (by simp[e])]
end
section
variable {prog:Program}{w:World}{κ:Type}[DecidableEq κ]{knd:HeapKind prog w κ}{A:Around}{E:Value→Shared→Prop}{s:Shared}{d a:Addr}{xs:List (κ×Addr×Value)}{k:κ}
theorem jgp:∀ {xs:List (κ×Addr×Value)} {j:Nat} {p:Addr×Value},(xs.map (·.1)).Nodup→xs[j]? = some (k,p)→atKey xs k=some p
 | x::xs,0,p,_,e=>by
  cases e
  simp[atKey]
 | x::xs,j+1,p,hn,e=>by
  obtain⟨n1,n2⟩:=List.nodup_cons.mp (show (x.1::xs.map (·.1)).Nodup from hn)
  have e':xs[j]? = some (k,p):=by simpa using e
  have hx:¬ x.1=k:=fun z=>n1 (z ▸ List.mem_map.mpr ⟨(k,p),List.mem_of_getElem? e',rfl⟩)
  have ih:=jgp n2 e'
  unfold atKey at ih ⊢
  rw[List.find?_cons,decide_eq_false hx]
  exact ih
theorem jib{xs:List (κ×Addr×Value)}(h:∀ (j:Nat) (p:Addr×Value),xs[j]?≠some (k,p)):atKey xs k=none:=by
 unfold atKey
 rw[Option.map_eq_none_iff,List.find?_eq_none]
 intro x hx hk
 obtain⟨j,hj⟩:=List.getElem?_of_mem hx
 exact h j x.2 (by rw[hj];congr 1;exact Prod.ext (of_decide_eq_true hk) rfl)
theorem jrs{o:Obj}{es:Array DictEntry}{ep:Nat}(f:Array DictEntry→Array DictEntry)(h1:s.heap.get? d=some o)(h2:o.ExactDict)(h3:o.data=.dict es ep) :
  Heap.SameBut d s.heap (s.heap.update d (Obj.mapDictKeys f))∧∃ o',(s.heap.update d (Obj.mapDictKeys f)).get? d=some o'∧o'.ExactDict∧o'.data=.dict (f es) (ep+1):=by
 obtain⟨c,dd,dt,sl⟩:=o
 have h3':dt=.dict es ep:=h3
 subst h3'
 refine⟨Heap.SameBut.update ..,⟨c,dd,.dict (f es) (ep+1),sl⟩,?_,h2,rfl⟩
 rw[Heap.get?_update_self _ h1 rfl]
 rfl
theorem jw7{v:Value}{Q:Value→Shared→Prop}(hr:knd.room A)(hk:knd.is s.heap k a)(hd:Heap.DictOfH knd s.heap d xs)(hz:xs.length≤sizeLine)
  (h1:∀ p,atKey xs k=some p→Q p.2 { s with toks:=s.toks+knd.draws k })
  (h2:atKey xs k=none→∀ h',Heap.DictOfH knd h' d (xs++[(k,a,v)])→Heap.SameBut d s.heap h'→Q v { s with heap:=h',toks:=s.toks+knd.draws k }):wpAny (model prog w) A (dictSetDefault d (.ref a) v) Q E s:=by
 obtain⟨o,es,ep,g1,g2,g3,g4,g5,g6⟩:=hd
 unfold dictSetDefault
 refine wpAny_holding (wpAny_bind (knd.pyHash hr hk (wpAny_bind ?_)))
 refine wpAny_dictFind_heap (s:={ s with toks:=s.toks+knd.draws k }) hr hk g1 g3 g4 g5 g6 (fun hn=>?_) (fun j p hj=>?_)
 ·show wpAny _ _ (rule _ >>= fun _=>_) _ _ _
  have hkn:=jib hn
  have hl:es.size=xs.length:=by rw[← Array.length_toList,g4,List.length_map]
  refine wpAny_bind (wpAny_rule (wpAny_bind (wpAny_updateDictKeys (s:={ s with toks:=s.toks+knd.draws k }) g1 g3 (wpAny_pure ?_) (by rw[hl];exact hz) (by simp))))
  obtain⟨sb,o',e1,e2,e3⟩:=jrs (s:={ s with toks:=s.toks+knd.draws k }) (fun x=>x.push { hash:=knd.hash k,key:=.ref a,val:=v }) g1 g2 g3
  refine h2 hkn _ ⟨o',_,_,e1,e2,e3,?_,fun x hx=>?_,?_⟩ sb
  ·rw[Array.toList_push,g4,List.map_append];rfl
  ·rcases List.mem_append.mp hx with hx|hx
   ·exact knd.keeps (g5 x hx) g1 g3 sb
   ·rw[List.mem_singleton.mp hx];exact knd.keeps hk g1 g3 sb
  ·rw[List.map_append]
   refine List.nodup_append.mpr ⟨g6,by simp,fun x hx y hy z=>?_⟩
   subst z
   have:x=k:=by simpa using hy
   subst this
   obtain⟨q,hq,e⟩:=List.mem_map.mp hx
   obtain⟨j,hj⟩:=List.getElem?_of_mem hq
   exact hn j q.2 (by rw[hj,← e])
 ·show wpAny _ _ (dictEntries d (keyPart (.ref a)) >>= fun _=>_) _ _ _
  refine wpAny_bind (wpAny_dictEntries (s:={ s with toks:=s.toks+knd.draws k }) g1 g3 ?_)
  have e:es[j]? = some (entryOfKey knd (k,p)):=by rw[← Array.getElem?_toList,g4,List.getElem?_map,hj];rfl
  rw[e]
  exact wpAny_bind (wpAny_rule (wpAny_pure (h1 p (jgp g6 hj))))
noncomputable def jg3(xs:List (κ×Addr×Value))(k:κ):List (κ×Addr×Value):=xs.filter fun x=>decide (x.1≠k)
theorem jg4:∀ {xs:List (κ×Addr×Value)} {j:Nat} {p:Addr×Value},(xs.map (·.1)).Nodup→xs[j]? = some (k,p)→xs.eraseIdx j=jg3 xs k
 | x::xs,0,p,hn,e=>by
  cases e
  obtain⟨n1,n2⟩:=List.nodup_cons.mp (show (k::xs.map (·.1)).Nodup from hn)
  unfold jg3
  rw[List.eraseIdx_cons_zero,List.filter_cons,if_neg (by simp)]
  refine (List.filter_eq_self.mpr fun y hy=>?_).symm
  rw[decide_eq_true_eq]
  intro z
  exact n1 (List.mem_map.mpr ⟨y,hy,z⟩)
 | x::xs,j+1,p,hn,e=>by
  obtain⟨n1,n2⟩:=List.nodup_cons.mp (show (x.1::xs.map (·.1)).Nodup from hn)
  have e':xs[j]? = some (k,p):=by simpa using e
  have hx:¬ x.1=k:=fun z=>n1 (z ▸ List.mem_map.mpr ⟨(k,p),List.mem_of_getElem? e',rfl⟩)
  unfold jg3
  rw[List.eraseIdx_cons_succ,List.filter_cons,if_pos (decide_eq_true hx),jg4 n2 e']
  rfl
theorem jt9{α β:Type}(f:α→β):∀ (l:List α) (j:Nat),(l.map f).eraseIdx j=(l.eraseIdx j).map f
 | [],_=>rfl
 | _::_,0=>rfl
 | x::l,j+1=>by rw[List.map_cons,List.eraseIdx_cons_succ,List.eraseIdx_cons_succ,List.map_cons,jt9 f l j]
theorem jxh{p:Addr×Value}{Q:Option DictEntry→Shared→Prop}(hr:knd.room A)(hk:knd.is s.heap k a)(hd:Heap.DictOfH knd s.heap d xs)(hz:xs.length≤sizeLine)(hp:atKey xs k=some p)
  (h1:∀ h',Heap.DictOfH knd h' d (jg3 xs k)→Heap.SameBut d s.heap h'→Q (some (entryOfKey knd (k,p))) { s with heap:=h',toks:=s.toks+knd.draws k }):wpAny (model prog w) A (Builtin.Dict.takeOut d (.ref a)) Q E s:=by
 obtain⟨o,es,ep,g1,g2,g3,g4,g5,g6⟩:=hd
 unfold Builtin.Dict.takeOut
 refine wpAny_holding (wpAny_bind (knd.pyHash hr hk (wpAny_bind ?_)))
 refine wpAny_dictFind_heap (s:={ s with toks:=s.toks+knd.draws k }) hr hk g1 g3 g4 g5 g6 (fun hn=>?_) (fun j p' hj=>?_)
 ·rw[jib hn] at hp;cases hp
 ·have ep':=jgp g6 hj
  rw[hp] at ep'
  cases ep'
  show wpAny _ _ (dictEntries d (keyPart (.ref a)) >>= fun _=>_) _ _ _
  refine wpAny_bind (wpAny_dictEntries (s:={ s with toks:=s.toks+knd.draws k }) g1 g3 ?_)
  have e:es[j]? = some (entryOfKey knd (k,p)):=by rw[← Array.getElem?_toList,g4,List.getElem?_map,hj];rfl
  rw[e]
  have hl:es.size=xs.length:=by rw[← Array.length_toList,g4,List.length_map]
  have hjs:j<es.size:=by rw[hl];exact (List.getElem?_eq_some_iff.mp hj).1
  have ee:(es.eraseIdxIfInBounds j).toList=(jg3 xs k).map (entryOfKey knd):=by
   rw[← jg4 g6 hj,← jt9,← g4]
   unfold Array.eraseIdxIfInBounds
   rw[dif_pos hjs,Array.toList_eraseIdx]
  refine wpAny_bind (wpAny_updateDictKeys (s:={ s with toks:=s.toks+knd.draws k }) g1 g3 (wpAny_pure ?_) (by rw[hl];exact hz) (by
   have:(es.eraseIdxIfInBounds j).size=(jg3 xs k).length:=by rw[← Array.length_toList,ee,List.length_map]
   have q:(jg3 xs k).length≤xs.length:=List.length_filter_le _ _
   omega))
  obtain⟨sb,o',e1,e2,e3⟩:=jrs (s:={ s with toks:=s.toks+knd.draws k }) (fun x=>x.eraseIdxIfInBounds j) g1 g2 g3
  refine h1 _ ⟨o',_,_,e1,e2,e3,ee,fun x hx=>knd.keeps (g5 x (List.mem_filter.mp hx).1) g1 g3 sb,?_⟩ sb
  exact List.Nodup.sublist (List.Sublist.map _ List.filter_sublist) g6
theorem jgl(hd:Heap.DictOfH knd s.heap d xs):s.TypeIs (.ref d) "dict":=by
 obtain⟨o,es,ep,g1,g2,_⟩:=hd
 exact⟨o,g1,g2.1⟩
theorem jry{v:Value}{Q:Value→Shared→Prop}(hr:knd.room A.in1)(hs:(d == sysModules)=false)(hk:knd.is s.heap k a)(hd:Heap.DictOfH knd s.heap d xs)(hz:xs.length≤sizeLine)
  (h1:∀ p,atKey xs k=some p→Q p.2 { s with toks:=s.toks+knd.draws k })
  (h2:atKey xs k=none→∀ h',Heap.DictOfH knd h' d (xs++[(k,a,v)])→Heap.SameBut d s.heap h'→Q v { s with heap:=h',toks:=s.toks+knd.draws k }):wpAny (model prog w) A (call (.builtin "dict.setdefault") [.ref d,.ref a,v]) Q E s:=by
 refine call_meetsIn (S:=fun A R s'=>A.in1=A.in1∧s'=s∧R=wants Q E∧knd.room A.in1) PySem.F.slot_dict_setdefault (jgl hd) PySem.F.entry_dict_setdefault (PySem.F.args_dict_setdefault_3 _ _ _) (MeetsIn.of_wp fun A' R s' hzz=>?_) ⟨rfl,rfl,rfl,hr⟩
 obtain⟨_,e1,e2,hr'⟩:=hzz
 subst e1 e2
 unfold Builtin.«dict.setdefault» Builtin.Dict.keyAndDefault
 refine wpAny_bind (wpAny_bind (wpAny_notOrdered_dict (jgl hd) ?_))
 refine wpAny_bind (wpAny_pure (wpAny_bind (wpAny_bind (wpAny_pure ?_))))
 refine wpAny_bind (m:=checkCount "setdefault" 1 2 _) (wpAny_pure (wpAny_pure ?_))
 refine wpAny_bind (wpAny_pure (wpAny_pure ?_))
 show wpAny _ _ (if (d == sysModules)=true then _ else _) _ _ _
 rw[if_neg (by rw[hs];decide)]
 refine wpAny_bind (jw7 hr' hk hd hz (fun p e=>?_) fun e h' d' sb=>?_)
 ·exact wpAny_pure ⟨_,rfl,h1 p e⟩
 ·exact wpAny_pure ⟨_,rfl,h2 e h' d' sb⟩
theorem jj6{p:Addr×Value}{Q:Value→Shared→Prop}(hr:knd.room A.in1)(hs:(d == sysModules)=false)(hk:knd.is s.heap k a)(hd:Heap.DictOfH knd s.heap d xs)(hz:xs.length≤sizeLine)(hp:atKey xs k=some p)
  (h1:∀ h',Heap.DictOfH knd h' d (jg3 xs k)→Heap.SameBut d s.heap h'→Q p.2 { s with heap:=h',toks:=s.toks+knd.draws k }):wpAny (model prog w) A (call (.builtin "dict.pop") [.ref d,.ref a]) Q E s:=by
 refine call_meetsIn (S:=fun A R s'=>A.in1=A.in1∧s'=s∧R=wants Q E∧knd.room A.in1) PySem.F.slot_dict_pop (jgl hd) PySem.F.entry_dict_pop (PySem.F.args_dict_pop_2 _ _) (MeetsIn.of_wp fun A' R s' hzz=>?_) ⟨rfl,rfl,rfl,hr⟩
 obtain⟨_,e1,e2,hr'⟩:=hzz
 subst e1 e2
 obtain⟨o,es,ep,g1,g2,g3,g4,g5,g6⟩:=id hd
 unfold Builtin.«dict.pop» Builtin.Dict.keyAndDefault
 refine wpAny_bind (wpAny_bind (wpAny_notOrdered_dict (jgl hd) ?_))
 refine wpAny_bind (wpAny_pure (wpAny_bind (wpAny_bind (wpAny_pure ?_))))
 refine wpAny_bind (m:=checkCount "pop" 1 2 _) (wpAny_pure (wpAny_pure ?_))
 refine wpAny_bind (wpAny_pure (wpAny_pure ?_))
 show wpAny _ _ (dictEntries d none >>= fun _=>_) _ _ _
 refine wpAny_bind (wpAny_dictEntries g1 g3 (wpAny_bind (wpAny_pure ?_)))
 have hne:es.isEmpty=false:=by
  have hl:es.size=xs.length:=by rw[← Array.length_toList,g4,List.length_map]
  have:xs≠[]:=by rintro rfl;cases hp
  have h0:0<xs.length:=List.length_pos_iff.mpr this
  rw[Array.isEmpty_eq_false_iff]
  intro z
  rw[z] at hl
  simp at hl;omega
 show wpAny _ _ (if es.isEmpty=true then _ else _) _ _ _
 rw[if_neg (by rw[hne];decide)]
 refine wpAny_bind (jxh hr' hk hd hz hp fun h' d' sb=>?_)
 show wpAny _ _ (letGo [_] [_] >>= fun _=>_) _ _ _
 exact wpAny_bind (wpAny_letGo (wpAny_pure ⟨_,rfl,h1 h' d' sb⟩))
end
theorem KT.drop{H:Hp}{kvs:List (List Key×V)}{xs:List (List Key×Addr×Value)}(r:KT H kvs xs)(k:List Key):KT H (jey kvs k) (jg3 xs k):=by
 induction r with
 | nil=>exact .nil
 | @cons p q ps qs h t ih =>
  by_cases e:p.1=k
  ·have e':q.1=k:=h.1.symm.trans e
   unfold jg3
   rw[jkc e,List.filter_cons,if_neg (by simp[e'])]
   exact ih
  ·have e':¬ q.1=k:=fun z=>e (h.1.trans z)
   unfold jg3
   rw[jkb e,List.filter_cons,if_pos (by simp[e'])]
   exact .cons h ih
section
variable {X:Cx}{pins:List (Addr×Obj)}{σ:St}{H:Hp}{s:Shared}{a b:Addr}{kvs:List (List Key×V)}{k:List Key}{A:Around}{E:Value→Shared→Prop}
theorem jBg{v:V}{r:Value}{Q:Value→Shared→Prop}(hu:A.units+1<cLine)(I:Inv X pins σ H s)(e:H a=some (.dT kvs))(eb:H b=some (.tup (k.map kV)))(rv:RelV v r)(hl:kvs.length<sizeLine)
  (h1:∀ v0,valV kvs k=some v0→∀ w' s',Inv X pins σ H s'→RelV v0 w'→Q w' s') (h2:valV kvs k=none→∀ s',Inv X pins σ (upd H a (.dT (kvs++[(k,v)]))) s'→Q r s') :
  wpAny (model X.prog X.w) A (call (.builtin "dict.setdefault") [.ref a,.ref b,r]) Q E s:=by
 obtain⟨z,hd,xs,rel,dd⟩:=jnq I.hok e
 have hz:xs.length≤sizeLine:=by rw[← Paired.length rel];exact z
 refine jry (tupleKind_room_in1 hu) hd (jkj I.hok eb) dd hz (fun p hp=>?_) fun hn h' dd' hs=>?_
 ·have q:=rel.val k
  rw[hp] at q
  obtain⟨v0,hv,rv0⟩:∃ v0,valV kvs k=some v0∧RelV v0 p.2:=by
   cases hv:valV kvs k with
   | none=>rw[hv] at q;exact q.elim
   | some v0=>rw[hv] at q;exact⟨v0,rfl,q⟩
  exact h1 v0 hv _ _ (I.tok _) rv0
 ·have q:=rel.val k
  rw[hn] at q
  have hv:valV kvs k=none:=by
   cases hv:valV kvs k with
   | none=>rfl
   | some v0=>rw[hv] at q;exact q.elim
  refine h2 hv _ ?_
  obtain⟨q,es,ep,hq,g2,g3,g4,_,g5⟩:=dd'
  refine jgz I (by rw[e];exact True.intro) hs ⟨q,hq⟩ ⟨by rw[List.length_append];exact hl,hd,_,(KT.keeps (Paired.snoc rel ⟨rfl,eb,rv⟩) fun c ys ec=>?_),q,es,ep,hq,g2,g3,g4,g5⟩
  rw[jaj (jl3 ec e (fun z=>nomatch z))]
  exact ec
theorem jx0{v:V}{Q:Value→Shared→Prop}(hu:A.units+1<cLine)(I:Inv X pins σ H s)(e:H a=some (.dT kvs))(eb:H b=some (.tup (k.map kV)))(l:valV kvs k=some v)
  (h:∀ w' s',Inv X pins σ (upd H a (.dT (jey kvs k))) s'→RelV v w'→Q w' s'):wpAny (model X.prog X.w) A (call (.builtin "dict.pop") [.ref a,.ref b]) Q E s:=by
 obtain⟨z,hd,xs,rel,dd⟩:=jnq I.hok e
 have hz:xs.length≤sizeLine:=by rw[← Paired.length rel];exact z
 have q:=rel.val k
 rw[l] at q
 obtain⟨p,hp,rp⟩:∃ p,atKey xs k=some p∧RelV v p.2:=by
  cases hp:atKey xs k with
  | none=>rw[hp] at q;exact q.elim
  | some p=>rw[hp] at q;exact⟨p,rfl,q⟩
 refine jj6 (tupleKind_room_in1 hu) hd (jkj I.hok eb) dd hz hp fun h' dd' hs=>?_
 refine h _ _ ?_ rp
 obtain⟨q,es,ep,hq,g2,g3,g4,_,g5⟩:=dd'
 refine jgz I (by rw[e];exact True.intro) hs ⟨q,hq⟩ ⟨Nat.le_trans (jms kvs k) z,hd,_,(KT.keeps (rel.drop k) fun c ys ec=>?_),q,es,ep,hq,g2,g3,g4,g5⟩
 rw[jaj (jl3 ec e (fun z=>nomatch z))]
 exact ec
end
noncomputable def tDSd(td ty tx:TE):TE:=fun σ H Q=>td σ H fun x H1=>∃ a,x=.ref a∧IsD H1 a∧ty σ H1 fun y H2=>tx σ H2 fun z H3=>∃ kvs k b,H3 a=some (.dT kvs)∧y=.ref b∧H3 b=some (.tup (k.map kV))∧kvs.length<sizeLine ∧
 (∀ v,valV kvs k=some v→Q v H3)∧(valV kvs k=none→Q z (upd H3 a (.dT (kvs++[(k,z)]))))
noncomputable def jAr(td ty:TE):TE:=fun σ H Q=>td σ H fun x H1=>∃ a,x=.ref a∧IsD H1 a∧ty σ H1 fun y H2=>∃ kvs k b v,H2 a=some (.dT kvs)∧y=.ref b∧H2 b=some (.tup (k.map kV))∧valV kvs k=some v∧Q v (upd H2 a (.dT (jey kvs k)))
section
variable {X:Cx}{o e f:Expr}{apos cpos:Pos}{td ty tx:TE}
theorem jzs(hu:X.A.units+1<cLine)(ho:PE X o td)(he:PE X e ty)(hf:PE X f tx)(m:M2 X o "setdefault" apos e f cpos):PE X (.Call (.Attribute o "setdefault" apos) [e,f] [] cpos) (tDSd td ty tx):=by
 intro pins s σ H Q I h
 refine wpAny_Call_method m.base m.few m.line PySem.F.plainAttrs_dict PySem.F.slot_dict_setdefault PySem.F.type_dict_setdefault (thn (ho pins s σ H _ I h) fun u s1 hzz=>?_)
 obtain⟨x,H1,I1,rx,a,ex,d,q1⟩:=hzz
 subst ex
 obtain rfl:u=Value.ref a:=rx
 obtain⟨t1,t2,_⟩:=jmx I1 d
 refine⟨t1,t2,?_⟩
 rw[m.trees]
 refine Calls.callWith_builtin rfl (Calls.evalArgs_plain (Calls.spliced_cons (thn (he pins s1 σ H1 _ I1 q1) fun iv s2 ⟨y,H2,I2,ry,q2⟩ =>
  Calls.spliced_cons (thn (hf pins s2 σ H2 _ I2 q2) fun fv s3 ⟨z,H3,I3,rz,kvs,k,b,ea,ey,eb,hl,q3,q4⟩=>Calls.spliced_nil ?_))))
 subst ey
 obtain rfl:iv=Value.ref b:=ry
 exact jBg hu I3 ea eb rz hl (fun v0 hv w' s4 I4 rw'=>⟨v0,H3,I4,rw',q3 v0 hv⟩) fun hv s4 I4=>⟨z,_,I4,rz,q4 hv⟩
theorem jte(hu:X.A.units+1<cLine)(ho:PE X o td)(he:PE X e ty)(m:M1 X o "pop" apos e cpos):PE X (.Call (.Attribute o "pop" apos) [e] [] cpos) (jAr td ty):=by
 intro pins s σ H Q I h
 refine wpAny_Call_method m.base m.few m.line PySem.F.plainAttrs_dict PySem.F.slot_dict_pop PySem.F.type_dict_pop (thn (ho pins s σ H _ I h) fun u s1 hzz=>?_)
 obtain⟨x,H1,I1,rx,a,ex,d,q1⟩:=hzz
 subst ex
 obtain rfl:u=Value.ref a:=rx
 obtain⟨t1,t2,_⟩:=jmx I1 d
 refine⟨t1,t2,?_⟩
 rw[m.trees]
 refine Calls.callWith_builtin rfl (Calls.evalArgs_plain (Calls.spliced_cons (thn (he pins s1 σ H1 _ I1 q1) fun iv s2 ⟨y,H2,I2,ry,kvs,k,b,v,ea,ey,eb,l,q2⟩=>Calls.spliced_nil ?_)))
 subst ey
 obtain rfl:iv=Value.ref b:=ry
 exact jx0 hu I2 ea eb l fun w' s3 I3 rw'=>⟨v,_,I3,rw',q2⟩
end
end L2
namespace DL
open PySem PySem.Spec L2
noncomputable def jc6(kvs:List (List Int×D))(k:List Int):Option D:=(kvs.find? fun p=>decide (p.1=k)).map (·.2)
noncomputable def delD(kvs:List (List Int×D))(k:List Int):List (List Int×D):=kvs.filter fun p=>decide (p.1≠k)
theorem jlp:∀ {a b:List Int},a.map (Sum.inl:Int→Key)=b.map Sum.inl→a=b
 | [],[],_=>rfl
 | [],_::_,h=>by cases h
 | _::_,[],h=>by cases h
 | x::a,y::b,h=>by
  rw[List.map_cons,List.map_cons,List.cons.injEq] at h
  rw[Sum.inl.inj h.1,jlp h.2]
inductive LookV(ρ:Rho)(K:PySem.W.Frag)(H:Hp)(o:Option D)(v:Option V):Prop
 | none (h1:o=none) (h2:v=none)
 | some (d:D) (u:V) (h1:o=some d) (h2:v=some u) (h3:Rep ρ K H d u)
theorem jfm{ρ:Rho}{K:PySem.W.Frag}{H:Hp}(k:List Int):∀ {kvs:List (List Int×D)} {vk:List (List Key×V)},vk.map (·.1)=kvs.map (fun p=>p.1.map Sum.inl)→Reps ρ K H (kvs.map (·.2)) (vk.map (·.2))→LookV ρ K H (jc6 kvs k) (valV vk (k.map Sum.inl))
 | [],[],_,_=>.none rfl rfl
 | [],_::_,h,_=>by cases h
 | _::_,[],h,_=>by cases h
 | p::kvs,q::vk,h,r=>by
  rw[List.map_cons,List.map_cons,List.cons.injEq] at h
  rw[List.map_cons,List.map_cons] at r
  obtain⟨u,us,e,q1,q2⟩:=reps_cons.mp r
  rw[List.cons.injEq] at e
  obtain⟨e1,e2⟩:=e
  by_cases hk:p.1=k
  ·have hq:q.1=k.map Sum.inl:=by rw[h.1,hk]
   refine .some p.2 q.2 ?_ (jgn hq) (by rw[e1];exact q1)
   unfold jc6
   rw[List.find?_cons,decide_eq_true hk];rfl
  ·have hq:¬ q.1=k.map Sum.inl:=fun z=>hk (jlp (by rw[← h.1];exact z))
   have ih:=jfm k h.2 (by rw[← e2] at q2;exact q2)
   unfold jc6 at ih ⊢
   rw[List.find?_cons,decide_eq_false hk,jgm hq]
   exact ih
theorem jvd{ρ:Rho}{K:PySem.W.Frag}{H:Hp}(k:List Int):∀ {kvs:List (List Int×D)} {vk:List (List Key×V)},vk.map (·.1)=kvs.map (fun p=>p.1.map Sum.inl)→Reps ρ K H (kvs.map (·.2)) (vk.map (·.2)) →
  (jey vk (k.map Sum.inl)).map (·.1)=(delD kvs k).map (fun p=>p.1.map Sum.inl)∧Reps ρ K H ((delD kvs k).map (·.2)) ((jey vk (k.map Sum.inl)).map (·.2))
 | [],[],_,_=>⟨rfl,Reps.nil⟩
 | [],_::_,h,_=>by cases h
 | _::_,[],h,_=>by cases h
 | p::kvs,q::vk,h,r=>by
  rw[List.map_cons,List.map_cons,List.cons.injEq] at h
  rw[List.map_cons,List.map_cons] at r
  obtain⟨u,us,e,q1,q2⟩:=reps_cons.mp r
  rw[List.cons.injEq] at e
  obtain⟨e1,e2⟩:=e
  obtain⟨i1,i2⟩:=jvd k h.2 (by rw[← e2] at q2;exact q2)
  by_cases hk:p.1=k
  ·have hq:q.1=k.map Sum.inl:=by rw[h.1,hk]
   unfold delD
   rw[jkc hq,List.filter_cons,if_neg (by simp[hk])]
   exact⟨i1,i2⟩
  ·have hq:¬ q.1=k.map Sum.inl:=fun z=>hk (jlp (by rw[← h.1];exact z))
   unfold delD
   rw[jkb hq,List.filter_cons,if_pos (by simp[hk]),List.map_cons,List.map_cons,List.map_cons,List.map_cons]
   exact⟨by rw[h.1];exact congrArg _ i1,Reps.cons (by rw[e1];exact q1) i2⟩
noncomputable def jkl:DSt→MS D:=fun _ Ω=>some (.ok (.obj Ω.length),Ω++[.dct []])
noncomputable def chkD:D→MS D:=fun x Ω=>match x with
 | .obj n=>match Ω[n]? with
  | some (.dct _)=>some (.ok (.obj n),Ω)
  | _=>none
 | _=>none
inductive ChkDI(x:D)(Ω Ω':Sto)(r:Except XD D):Prop
 | mk (n:Nat) (kvs:List (List Int×D)) (h1:x=.obj n) (h2:Ω[n]? = some (.dct kvs)) (h3:r=.ok (.obj n)) (h4:Ω'=Ω)
theorem jdn{x:D}{Ω Ω':Sto}{r:Except XD D}(h:chkD x Ω=some (r,Ω')):ChkDI x Ω Ω' r:=by
 unfold chkD at h
 cases x with
 | obj n =>
  dsimp only at h
  cases hn:Ω[n]? with
  | none=>rw[hn] at h;cases h
  | some so =>
   rw[hn] at h
   cases so with
   | dct kvs=>cases h;exact⟨n,kvs,rfl,hn,rfl,rfl⟩
   | _=>cases h
 | _=>cases h
noncomputable def atD(g:List (List Int×D)→List Int→Option (D×List (List Int×D)))(x:D)(ks:List D):MS D:=fun Ω=>match x,ks with
 | .obj n,[.int i,.int j]=>match Ω[n]? with
  | some (.dct kvs)=>match g kvs [i,j] with
   | some (d,kvs')=>some (.ok d,Ω.set n (.dct kvs'))
   | none=>none
  | _=>none
 | _,_=>none
inductive AtDI(g:List (List Int×D)→List Int→Option (D×List (List Int×D)))(x:D)(ks:List D)(Ω Ω':Sto)(r:Except XD D):Prop
 | mk (n:Nat) (i j:Int) (kvs kvs':List (List Int×D)) (d:D) (h1:x=.obj n) (h2:ks=[.int i,.int j]) (h3:Ω[n]? = some (.dct kvs)) (h4:g kvs [i,j]=some (d,kvs')) (h5:r=.ok d) (h6:Ω'=Ω.set n (.dct kvs'))
theorem jiw{g:List (List Int×D)→List Int→Option (D×List (List Int×D))}{x:D}{ks:List D}{Ω Ω':Sto}{r:Except XD D}(h:atD g x ks Ω=some (r,Ω')):AtDI g x ks Ω Ω' r:=by
 unfold atD at h
 split at h
 ·rename_i n i j
  split at h
  ·rename_i kvs hn
   split at h
   ·rename_i d kvs' hg
    cases h
    exact⟨n,i,j,kvs,kvs',d,rfl,rfl,hn,hg,rfl,rfl⟩
   ·cases h
  ·cases h
 ·cases h
noncomputable def jym(kvs:List (List Int×D))(k:List Int):Option (D×List (List Int×D)):=some ((jc6 kvs k).getD .non,kvs)
noncomputable def jja(kvs:List (List Int×D))(k:List Int):Option (D×List (List Int×D)):=(jc6 kvs k).map fun d=>(d,delD kvs k)
noncomputable def gSdD(v:D)(kvs:List (List Int×D))(k:List Int):Option (D×List (List Int×D)):=if kvs.length<sizeLine then some (match jc6 kvs k with
 | some d=>(d,kvs)
 | none=>(v,kvs++[(k,v)])) else none
noncomputable def js9{α:Type}(ks:List D)(m:Int→Int→MS α):MS α:=match ks with
 | [.int i,.int j]=>m i j
 | _=>fun _=>none
theorem jqt{α:Type}{ks:List D}{m:Int→Int→MS α}{Ω:Sto}{r:Except XD α×Sto}(h:js9 ks m Ω=some r):∃ i j,ks=[.int i,.int j]∧m i j Ω=some r:=by
 unfold js9 at h
 split at h
 ·exact⟨_,_,rfl,h⟩
 ·cases h
noncomputable def jsq(fo:DSt→MS D)(fl:DSt→MS (List D)):DSt→MS D:=fun δ=>(fo δ).b fun x=>(chkD x).b fun x=>(fl δ).b fun ks=>atD jym x ks
noncomputable def jsr(fo:DSt→MS D)(fl:DSt→MS (List D)):DSt→MS D:=fun δ=>(fo δ).b fun x=>(chkD x).b fun x=>(fl δ).b fun ks=>atD jja x ks
noncomputable def mSdD(fo:DSt→MS D)(fl:DSt→MS (List D))(fv:DSt→MS D):DSt→MS D:=fun δ=>(fo δ).b fun x=>(chkD x).b fun x=>(fl δ).b fun ks=>js9 ks fun i j=>(fv δ).b fun v=>atD (gSdD v) x [.int i,.int j]
section
variable {X:Cx}{O B:List Nat}{a b e e1 e2 o f:Expr}{es:List Expr}{fa fb fo fv:DSt→MS D}{fl:DSt→MS (List D)}{pos:Pos}
theorem jlv:ME X O (.Dict [] [] pos) jkl:=by
 rintro pins s σ H Q I ⟨ρ₀,S₀,H₀,F,ρ,S,δ,Ω,R,r,Ω',hf,k⟩
 cases hf
 refine jtc pins s σ H Q I fun p hp=>?_
 obtain⟨t1,t2,t3⟩:=R.newS (nso:=.dct []) (no:=.dT []) hp fun ρ' S' Hv' l v=>⟨[],jag,rfl,Reps.nil⟩
 exact k _ _ _ _ t1 t2 t3 (rep_obj.mpr ⟨p,by unfold addR;rw[if_pos rfl],rfl⟩)
theorem jdt{Ω:Sto}{n:Nat}{so:SO}(h:Ω[n]? = some so):Ω.set n so=Ω:=by
 obtain⟨hl,e⟩:=List.getElem?_eq_some_iff.mp h
 rw[← e,List.set_getElem_self]
theorem jv4{kk:Nat}{tp p2 p3:Pos}(hu:X.A.units+1<cLine)(ho:ME X O o fo)(hl:MA X O [e1,e2] fl)(m:autoParam (M1 X o "get" p2 (.Tuple [e1,e2] kk tp) p3) zau9._auto_1) :
  ME X O (.Call (.Attribute o "get" p2) [.Tuple [e1,e2] kk tp] [] p3) (jsq fo fl):=by
 rintro pins s σ H Q I ⟨ρ₀,S₀,H₀,F,ρ,S,δ,Ω,R,r,Ω',hf,k⟩
 refine jta hu ho (jkv hl) m pins s σ H Q I ?_
 rcases MS.b_inv hf with ⟨x,Ω1,e1,hf⟩|⟨x,e1,rfl⟩
 ·refine⟨ρ₀,S₀,H₀,F,ρ,S,δ,Ω,R,.ok x,Ω1,e1,fun u ρ1 S1 H1 R1 l1 v1 r1=>?_⟩
  rcases MS.b_inv hf with ⟨x',Ω1',e1',hf⟩|⟨x',e1',rfl⟩
  ·obtain⟨n,kvs0,rfl,hi,hr,rfl⟩:=jdn e1'
   cases hr
   obtain⟨ad,q1,q2⟩:=rep_obj.mp r1
   obtain⟨ad',p1,p2',vk0,p3',p4,p5⟩:=R1.sto.ats n _ hi
   rw[q1] at p1;cases p1
   refine⟨ad,q2,.inr ⟨vk0,.inl p3'⟩,?_⟩
   rcases MS.b_inv hf with ⟨ks,Ω2,e2',hf⟩|⟨y,e2',rfl⟩
   ·refine⟨ρ₀,S₀,H₀,F,ρ1,S1,δ,_,R1,.ok ks,Ω2,e2',fun w ρ2 S2 H2 R2 l2 v2 r2=>?_⟩
    obtain⟨n',i,j,kvs,kvs',d,hx',rfl,hi',hg',rfl,rfl⟩:=jiw hf
    cases hx'
    cases hg'
    obtain⟨b1,t1,t2,vk,t3,t4,t5⟩:=R2.sto.ats n _ hi'
    have qa:=l2 n ad q1
    rw[qa] at t1;cases t1
    obtain⟨w1,w2,rfl,y1,y2⟩:=jk0 r2
    cases rep_int.mp y1
    cases rep_int.mp y2
    refine⟨by show 2≤sizeLine;decide,fun p hp=>?_⟩
    have nda:ad≠p:=jas t3 hp
    refine⟨_,DGet.t (k:=[Sum.inl i,Sum.inl j]) (by rw[jaj nda];exact t3) jag,?_⟩
    have R3:=R2.mono (jal hp (o:=.tup [.int i,.int j]))
    have rv:Rep ρ2 X.K (hid (upd H2 p (.tup [.int i,.int j])) (fob (un F S2) σ O)) ((jc6 kvs [i,j]).getD .non) ((valV vk [Sum.inl i,Sum.inl j]).getD .non):=by
     rcases jfm [i,j] t4 t5 with ⟨z1,z2⟩|⟨d0,u0,z1,z2,z3⟩
     ·have z2':valV vk [Sum.inl i,Sum.inl j]=none:=z2
      rw[z1,z2'];exact rep_non.mpr rfl
     ·have z2':valV vk [Sum.inl i,Sum.inl j]=some u0:=z2
      rw[z1,z2'];exact z3.mono (jaf (jal hp))
    rw[jdt hi'] at k
    exact k _ ρ2 S2 _ R3 (l1.trans l2) (v1.trans (v2.trans (jaf (jal hp)))) rv
   ·exact⟨ρ₀,S₀,H₀,F,ρ1,S1,δ,_,R1,.error y,_,e2',trivial⟩
  ·exact absurd (jdn e1') (fun ⟨_,_,_,_,h,_⟩=>by cases h)
 ·exact⟨ρ₀,S₀,H₀,F,ρ,S,δ,Ω,R,.error x,_,e1,trivial⟩
theorem jv8{kk:Nat}{tp p2 p3:Pos}(hu:X.A.units+1<cLine)(ho:ME X O o fo)(hl:MA X O [e1,e2] fl)(m:autoParam (M1 X o "pop" p2 (.Tuple [e1,e2] kk tp) p3) zau9._auto_1) :
  ME X O (.Call (.Attribute o "pop" p2) [.Tuple [e1,e2] kk tp] [] p3) (jsr fo fl):=by
 rintro pins s σ H Q I ⟨ρ₀,S₀,H₀,F,ρ,S,δ,Ω,R,r,Ω',hf,k⟩
 refine jte hu ho (jkv hl) m pins s σ H Q I ?_
 rcases MS.b_inv hf with ⟨x,Ω1,e1,hf⟩|⟨x,e1,rfl⟩
 ·refine⟨ρ₀,S₀,H₀,F,ρ,S,δ,Ω,R,.ok x,Ω1,e1,fun u ρ1 S1 H1 R1 l1 v1 r1=>?_⟩
  rcases MS.b_inv hf with ⟨x',Ω1',e1',hf⟩|⟨x',e1',rfl⟩
  ·obtain⟨n,kvs0,rfl,hi,hr,rfl⟩:=jdn e1'
   cases hr
   obtain⟨ad,q1,q2⟩:=rep_obj.mp r1
   obtain⟨ad',p1,p2',vk0,p3',p4,p5⟩:=R1.sto.ats n _ hi
   rw[q1] at p1;cases p1
   refine⟨ad,q2,.inr ⟨vk0,.inl p3'⟩,?_⟩
   rcases MS.b_inv hf with ⟨ks,Ω2,e2',hf⟩|⟨y,e2',rfl⟩
   ·refine⟨ρ₀,S₀,H₀,F,ρ1,S1,δ,_,R1,.ok ks,Ω2,e2',fun w ρ2 S2 H2 R2 l2 v2 r2=>?_⟩
    obtain⟨n',i,j,kvs,kvs',d,hx',rfl,hi',hg',rfl,rfl⟩:=jiw hf
    cases hx'
    obtain⟨b1,t1,t2,vk,t3,t4,t5⟩:=R2.sto.ats n _ hi'
    have qa:=l2 n ad q1
    rw[qa] at t1;cases t1
    obtain⟨w1,w2,rfl,y1,y2⟩:=jk0 r2
    cases rep_int.mp y1
    cases rep_int.mp y2
    refine⟨by show 2≤sizeLine;decide,fun p hp=>?_⟩
    have nda:ad≠p:=jas t3 hp
    unfold jja at hg'
    rcases jfm [i,j] t4 t5 with ⟨z1,z2⟩|⟨d0,u0,z1,z2,z3⟩
    ·rw[z1] at hg';cases hg'
    ·rw[z1] at hg'
     cases hg'
     have z2':valV vk [Sum.inl i,Sum.inl j]=some u0:=z2
     have sm:=jal hp (o:=.tup [.int i,.int j])
     have R3:=R2.mono sm
     have t3':upd H2 p (.tup [.int i,.int j]) ad=some (.dT vk):=by rw[jaj nda];exact t3
     obtain⟨d1,d2⟩:=jvd [i,j] t4 (t5.mono (jaf sm) (H':=hid (upd H2 p (.tup [.int i,.int j])) (fob (un F S2) σ O)))
     obtain⟨s1,s2⟩:=R3.putS (so':=.dct (delD kvs [i,j])) (o':=.dT (jey vk [Sum.inl i,Sum.inl j])) hi' qa t2 t3' (fun _ z=>nomatch z) ⟨_,jag,d1,d2⟩
     refine⟨vk,[Sum.inl i,Sum.inl j],p,u0,t3',rfl,jag,z2',?_⟩
     exact k _ ρ2 S2 _ s1 (l1.trans l2) (by rw[s2];exact v1.trans (v2.trans (jaf sm))) (by rw[s2];exact z3.mono (jaf sm))
   ·exact⟨ρ₀,S₀,H₀,F,ρ1,S1,δ,_,R1,.error y,_,e2',trivial⟩
  ·exact absurd (jdn e1') (fun ⟨_,_,_,_,h,_⟩=>by cases h)
 ·exact⟨ρ₀,S₀,H₀,F,ρ,S,δ,Ω,R,.error x,_,e1,trivial⟩
end
section
variable {X:Cx}{O B:List Nat}{a b e e1 e2 o f:Expr}{es:List Expr}{fa fb fo fv:DSt→MS D}{fl:DSt→MS (List D)}{pos:Pos}
theorem jy7{kk:Nat}{tp p2 p3:Pos}(hu:X.A.units+1<cLine)(ho:ME X O o fo)(hl:MA X O [e1,e2] fl)(hv:ME X O f fv)(m:autoParam (M2 X o "setdefault" p2 (.Tuple [e1,e2] kk tp) f p3) zau9._auto_1) :
  ME X O (.Call (.Attribute o "setdefault" p2) [.Tuple [e1,e2] kk tp,f] [] p3) (mSdD fo fl fv):=by
 rintro pins s σ H Q I ⟨ρ₀,S₀,H₀,F,ρ,S,δ,Ω,R,r,Ω',hf,k⟩
 refine jzs hu ho (jkv hl) hv m pins s σ H Q I ?_
 rcases MS.b_inv hf with ⟨x,Ω1,e1,hf⟩|⟨x,e1,rfl⟩
 ·refine⟨ρ₀,S₀,H₀,F,ρ,S,δ,Ω,R,.ok x,Ω1,e1,fun u ρ1 S1 H1 R1 l1 v1 r1=>?_⟩
  rcases MS.b_inv hf with ⟨x',Ω1',e1',hf⟩|⟨x',e1',rfl⟩
  ·obtain⟨n,kvs0,rfl,hi,hr,rfl⟩:=jdn e1'
   cases hr
   obtain⟨ad,q1,q2⟩:=rep_obj.mp r1
   obtain⟨ad',p1,p2',vk0,p3',p4,p5⟩:=R1.sto.ats n _ hi
   rw[q1] at p1;cases p1
   refine⟨ad,q2,.inr ⟨vk0,.inl p3'⟩,?_⟩
   rcases MS.b_inv hf with ⟨ks,Ω2,e2',hf⟩|⟨y,e2',rfl⟩
   ·refine⟨ρ₀,S₀,H₀,F,ρ1,S1,δ,_,R1,.ok ks,Ω2,e2',fun w ρ2 S2 H2 R2 l2 v2 r2=>?_⟩
    obtain⟨i,j,rfl,hf⟩:=jqt hf
    refine⟨by rw[r2.length];show 2≤sizeLine;decide,fun p hp=>?_⟩
    have sm:=jal hp (o:=.tup w)
    have R3:=R2.mono sm
    rcases MS.b_inv hf with ⟨dv,Ω3,e3,hf⟩|⟨y,e3,rfl⟩
    ·refine⟨ρ₀,S₀,H₀,F,ρ2,S2,δ,Ω2,R3,.ok dv,Ω3,e3,fun z ρ3 S3 H3 R4 l3 v3 r3=>?_⟩
     obtain⟨n',i',j',kvs,kvs',d,hx',hks,hi',hg',rfl,rfl⟩:=jiw hf
     cases hx'
     cases hks
     obtain⟨w1,w2,rfl,y1,y2⟩:=jk0 r2
     cases rep_int.mp y1
     cases rep_int.mp y2
     obtain⟨b1,t1,t2,vk,t3,t4,t5⟩:=R4.sto.ats n _ hi'
     have qa:=l3 n ad (l2 n ad q1)
     rw[qa] at t1;cases t1
     have hp3:H3 p=some (.tup [.int i,.int j]):=by
      have:hid (upd H2 p (.tup [.int i,.int j])) (fob (un F S2) σ O) p=some (.tup [.int i,.int j]):=hid_some.mpr ⟨R2.fresh hp,jag⟩
      exact (hid_some.mp (v3 p _ this)).2
     unfold gSdD at hg'
     by_cases hz:kvs.length<sizeLine
     ·rw[if_pos hz] at hg'
      have hlen:vk.length=kvs.length:=by
       have:=congrArg List.length t4
       rw[List.length_map,List.length_map] at this
       exact this
      have vv:=v1.trans (v2.trans ((jaf sm).trans v3))
      have ll:=l1.trans (l2.trans l3)
      refine⟨vk,[Sum.inl i,Sum.inl j],p,t3,rfl,hp3,by rw[hlen];exact hz,fun v0 hv0=>?_,fun hv0=>?_⟩
      ·rcases jfm [i,j] t4 t5 with ⟨z1,z2⟩|⟨d0,u0,z1,z2,z3⟩
       ·have z2':valV vk [Sum.inl i,Sum.inl j]=none:=z2
        rw[z2'] at hv0;cases hv0
       ·have z2':valV vk [Sum.inl i,Sum.inl j]=some u0:=z2
        rw[z2'] at hv0;cases hv0
        rw[z1] at hg'
        cases hg'
        rw[jdt hi'] at k
        exact k _ ρ3 S3 _ R4 ll vv z3
      ·rcases jfm [i,j] t4 t5 with ⟨z1,z2⟩|⟨d0,u0,z1,z2,z3⟩
       ·rw[z1] at hg'
        cases hg'
        obtain⟨s1,s2⟩:=R4.putS (so':=.dct (kvs++[([i,j],dv)])) (o':=.dT (vk++[([Sum.inl i,Sum.inl j],z)])) hi' qa t2 t3 (fun _ z=>nomatch z) ⟨_,jag,by rw[List.map_append,List.map_append,t4];rfl,by rw[List.map_append,List.map_append];exact t5.append (Reps.cons r3 Reps.nil)⟩
        exact k _ ρ3 S3 _ s1 ll (by rw[s2];exact vv) (by rw[s2];exact r3)
       ·have z2':valV vk [Sum.inl i,Sum.inl j]=some u0:=z2
        rw[z2'] at hv0;cases hv0
     ·rw[if_neg hz] at hg';cases hg'
    ·exact⟨ρ₀,S₀,H₀,F,ρ2,S2,δ,Ω2,R3,.error y,_,e3,trivial⟩
   ·exact⟨ρ₀,S₀,H₀,F,ρ1,S1,δ,_,R1,.error y,_,e2',trivial⟩
  ·exact absurd (jdn e1') (fun ⟨_,_,_,_,h,_⟩=>by cases h)
 ·exact⟨ρ₀,S₀,H₀,F,ρ,S,δ,Ω,R,.error x,_,e1,trivial⟩
end
theorem jnp{ρ:Rho}{K:PySem.W.Frag}{O:List Nat}{own:Nat}{caps:List (Str×Nat)}{h:D→DSt→Option DSt}{tc:DSt→M Bool}{fe:DSt→M D}{σ:L2.St}{H₀ H1:Hp}{F:Addr→Bool}{δ:DSt}{Q:VK}{ds tot:List D}{J:It}{Dd:Addr}(hcf:jc2 O caps=true)
  (R1:RS ρ K H₀ H1 F O σ δ) (it:ItD ρ K J ds (hid H1 (fob F σ O))) (hD:H1 Dd=none) (hcd:jbx h tc fe ds (jbf own caps δ)=some tot) (hz:tot.length≤sizeLine)
  (k:∀ zs H',Same H1 H'→H' Dd=some (.lst zs)→Reps ρ K (hid H' fun b=>fob F σ O b || b == Dd) tot zs→Q (.ref Dd) H') :
  ∃ W:Nat→Nat→L2.St→Hp→Prop,(∃ m,W 0 m (jbn own caps σ) (upd H1 Dd (.lst [])))∧∀ i m σ' H',W i m σ' H' →
  (J.stop i H'∧Q (.ref Dd) H')∨(J.go i H'∧∃ N:L2.St→Hp→Prop,(∀ σ2 H2,N σ2 H2→∃ m',m'<m∧W (i+1) m' σ2 H2) ∧
   ∀ x H2,J.yld i H' x H2→tG K [] h x σ' H2 fun σ3 H3=>tB K [] E0 tc σ3 H3 fun b H4=>if b=true then tD K [] E0 fe σ3 H4 fun v H5=>∃ ys,H5 Dd=some (.lst ys)∧ys.length<sizeLine∧N σ3 (upd H5 Dd (.lst (ys++[v]))) else N σ3 H4):=by
 have pf:=R1.fresh hD
 let F':Addr→Bool:=fun b=>fob F σ O b || b == Dd
 have F't:∀ b,F' b=true↔fob F σ O b=true∨b=Dd:=fun b=>by show (_ || _)=true↔_;rw[Bool.or_eq_true,beq_iff_eq]
 have vis:∀ {H2:Hp},Same H1 H2→Same (hid H1 (fob F σ O)) (hid H2 F'):=fun {H2} e b o q=>by
  obtain⟨q1,q2⟩:=hid_some.mp q
  refine hid_some.mpr ⟨?_,e b o q2⟩
  cases z:F' b with
  | false=>rfl
  | true =>
   rcases (F't b).mp z with z|z
   ·rw[q1] at z;cases z
   ·rw[z,hD] at q2;cases q2
 have R0:RS ρ K H1 (upd H1 Dd (.lst [])) F' [] (jbn own caps σ) (jbf own caps δ):=by
  refine⟨by simp[jbn,jbf],jal hD,fun b hb=>?_,fun i d hd _=>?_,fun i hi=>absurd hi (by simp),fun i hi=>absurd hi (by simp)⟩
  ·rcases (F't b).mp hb with z|z
   ·refine jd2 fun q=>?_
    rw[R1.fresh q] at z;cases z
   ·rw[z,jag];exact fun q=>nomatch q
  ·obtain⟨p,p1,p2,p3⟩:=jeu hd
   have hO:p.2∉O:=fun z=>by
    have:=List.all_eq_true.mp hcf p (List.mem_of_getElem? p1)
    rw[List.contains_iff_mem.mpr z] at this;cases this
   obtain⟨v,q1,q2⟩:=R1.val p.2 d p3 hO
   exact⟨v,jfk p1 p2 q1,by rw[ja3];exact q2.mono (vis (jal hD))⟩
 refine⟨fun i m σ' H'=>m=ds.length-i∧i≤ds.length∧∃ δ' done zs rest,RS ρ K H1 H' F' [] σ' δ'∧H' Dd=some (.lst zs)∧Reps ρ K (hid H' F') done zs∧jbx h tc fe (ds.drop i) δ'=some rest∧done++rest=tot,
  ⟨ds.length,by simp,Nat.zero_le _,_,[],[],tot,R0,jag,Reps.nil,hcd,rfl⟩,?_⟩
 rintro i m σ' H' ⟨rfl,hil,δ',done,zs,rest,R',hDd,rz,hr,htot⟩
 have fv:Same (hid H1 (fob F σ O)) (hid H' (fob F' σ' [])):=by rw[ja3];exact vis R'.same
 obtain⟨j1,j2⟩:=it H' (fob F' σ' []) i fv fun p hp=>R'.fresh hp
 by_cases hlt:i<ds.length
 ·obtain⟨go,yld⟩:=j1 hlt
  refine .inr ⟨go,fun σ2 H2=>∃ δ2 done zs rest,RS ρ K H1 H2 F' [] σ2 δ2∧H2 Dd=some (.lst zs)∧Reps ρ K (hid H2 F') done zs∧jbx h tc fe (ds.drop (i+1)) δ2=some rest∧done++rest=tot,
   fun σ2 H2 q=>⟨ds.length-(i+1),by omega,rfl,hlt,q⟩,fun x H2 y=>?_⟩
  obtain⟨s2,d,hd,rd⟩:=yld x H2 y
  have hdr:ds.drop i=d::ds.drop (i+1):=by
   rw[List.drop_eq_getElem_cons hlt]
   have:ds[i]=d:=by rw[List.getElem?_eq_getElem hlt] at hd;exact Option.some.inj hd
   rw[this]
  rw[hdr] at hr
  unfold jbx at hr
  cases e2:h d δ' with
  | none=>rw[e2] at hr;cases hr
  | some δ1 =>
   rw[e2] at hr
   dsimp only at hr
   refine⟨ρ,H1,F',δ',d,δ1,R'.mono s2,rd,e2,fun σ3 ef R3=>?_⟩
   have keepD:∀ {H5:Hp},Same H2 H5→H5 Dd=some (.lst zs)∧Reps ρ K (hid H5 F') done zs:=fun {H5} e=>⟨e _ _ (s2 _ _ hDd),rz.mono (jaf (s2.trans e))⟩
   split at hr
   ·rename_i e3
    refine⟨ρ,H1,F',δ1,.ok true,R3,e3,fun H4 s4=>iteT ?_⟩
    split at hr
    ·rename_i yv e4
     refine⟨ρ,H1,F',δ1,.ok yv,R3.mono s4,e4,fun v H5 s5 r5=>?_⟩
     rw[ja3] at r5
     obtain⟨k1,k2⟩:=keepD (s4.trans s5)
     cases e5:jbx h tc fe (ds.drop (i+1)) δ1 with
     | none=>rw[e5] at hr;cases hr
     | some rest' =>
      rw[e5] at hr
      have hr':yv::rest'=rest:=Option.some.inj hr
      have hFD:F' Dd=true:=(F't Dd).mpr (.inr rfl)
      have hh:hid (upd H5 Dd (.lst (zs++[v]))) F'=hid H5 F':=jcz hFD
      refine⟨zs,k1,?_,δ1,done++[yv],zs++[v],rest',?_,jag,?_,e5,by rw[List.append_assoc,← htot,← hr'];rfl⟩
      ·have l1:=k2.length
       have l2:=congrArg List.length htot
       rw[List.length_append,← hr',List.length_cons] at l2
       omega
      ·have R5:=R3.mono (s4.trans s5)
       refine⟨R5.len,jeq R5.same hD,fun b hb=>jd2 (R5.fin b hb),fun j d' hj hO=>?_,fun j hj=>absurd hj (by simp),fun j hj=>absurd hj (by simp)⟩
       obtain⟨v',w1,w2⟩:=R5.val j d' hj hO
       refine⟨v',w1,?_⟩
       rw[ja3] at w2 ⊢
       rw[hh];exact w2
      ·rw[hh]
       exact k2.append (Reps.cons r5 Reps.nil)
    ·cases hr
   ·rename_i e3
    refine⟨ρ,H1,F',δ1,.ok false,R3,e3,fun H4 s4=>iteF ?_⟩
    obtain⟨k1,k2⟩:=keepD s4
    exact⟨δ1,done,zs,rest,R3.mono s4,k1,k2,hr,htot⟩
   ·cases hr
 ·have ei:i=ds.length:=by omega
  subst ei
  rw[List.drop_length] at hr
  cases hr
  rw[List.append_nil] at htot
  subst htot
  exact .inl ⟨j2 rfl,k zs H' R'.same hDd rz⟩
theorem RS.show{ρ:Rho}{K:PySem.W.Frag}{H₀ H:Hp}{F F':Addr→Bool}{O:List Nat}{σ:L2.St}{δ:DSt}(R:RS ρ K H₀ H F O σ δ)(h:∀ b,F' b=true→F b=true):RS ρ K H₀ H F' O σ δ:=by
 have v:Same (hid H (fob F σ O)) (hid H (fob F' σ O)):=jcr fun b q=>by
  rcases fob_t.mp q with z|z
  ·exact fob_t.mpr (.inl (h b z))
  ·exact fob_t.mpr (.inr z)
 refine⟨R.len,R.same,fun b hb=>R.fin b (h b hb),fun i d hd hi=>?_,fun i hi=>?_,R.nd⟩
 ·obtain⟨u,q1,q2⟩:=R.val i d hd hi
  exact⟨u,q1,q2.mono v⟩
 ·obtain⟨a,xs,ds,q1,q2,q3,q4,q5⟩:=R.own i hi
  refine⟨a,xs,ds,q1,q2,q3,⟨q4.1,?_⟩,q5.mono v⟩
  cases e:F' a with
  | false=>rfl
  | true=>rw[h a e] at q4;cases q4.2
noncomputable def jfb(Ω:Sto):D→Option (List D)
 | .obj n=>match Ω[n]? with
  | some (.lst ds)=>if ds.all jfw=true then some ds else none
  | _=>none
 | d=>seqD d
theorem jfv{ρ:Rho}{K:PySem.W.Frag}{H H':Hp}:∀ {ds:List D} {vs:List V},ds.all jfw=true→Reps ρ K H ds vs→Reps ρ K H' ds vs
 | [],vs,_,r=>by rw[reps_nil.mp r];exact Reps.nil
 | d::ds,vs,h,r=>by
  rw[List.all_cons,Bool.and_eq_true] at h
  obtain⟨u,us,rfl,q1,q2⟩:=reps_cons.mp r
  exact Reps.cons (jng h.1 q1) (jfv h.2 q2)
section
variable {ρ₀ ρ:Rho}{S₀ S F:Addr→Bool}{H₀ H:Hp}{K:PySem.W.Frag}{mg:Str→Option Value}{O:List Nat}{σ:L2.St}{δ:DSt}{Ω:Sto}
inductive WalkI(ρ:Rho)(K:PySem.W.Frag)(S G0:Addr→Bool)(H:Hp)(ds:List D)(v:V):Prop
 | mk (k:Bool) (l:Addr) (xs:List V) (e:v=.ref l) (h:∀ G:Addr→Bool,(∀ b,G b=true→G0 b=true)→(S l=true→G l=false)→SqV k K (hid H G) l xs∧Reps ρ K (hid H G) ds xs)
theorem jrr(R:RM ρ₀ S₀ H₀ F K mg O ρ S H σ δ Ω){x:D}{ds:List D}{v:V}(hx:jfb Ω x=some ds)(hr:Rep ρ K (hid H (fob (un F S) σ O)) x v):WalkI ρ K S (fob (un F S) σ O) H ds v:=by
 have data:seqD x=some ds→WalkI ρ K S (fob (un F S) σ O) H ds v:=fun hd=>by
  obtain⟨k,l,xs,e,z1,z2⟩:=jAj hd hr
  exact⟨k,l,xs,e,fun G hG _=>⟨jir (jcr hG) z1,z2.mono (jcr hG)⟩⟩
 cases x with
 | obj n =>
  unfold jfb at hx
  dsimp only at hx
  cases hn:Ω[n]? with
  | none=>rw[hn] at hx;cases hx
  | some so =>
   rw[hn] at hx
   cases so with
   | lst es =>
    dsimp only at hx
    by_cases hs:es.all jfw=true
    ·rw[if_pos hs] at hx
     cases hx
     obtain⟨ad,q1,q2⟩:=rep_obj.mp hr
     obtain⟨ad',p1,p2,xs,p3,p4⟩:=R.sto.ats n _ hn
     rw[q1] at p1;cases p1
     exact⟨false,ad,xs,q2,fun G hG hl=>⟨SqL.of (hid_some.mpr ⟨hl p2,p3⟩),jfv hs p4⟩⟩
    ·rw[if_neg hs] at hx;cases hx
   | _=>cases hx
 | _=>exact data hx
noncomputable def jp0(G:Addr→Bool)(l1 l2:Addr):Addr→Bool:=fun b=>G b&&!(b == l1)&&!(b == l2)
theorem jjb{G:Addr→Bool}{l1 l2 b:Addr}(h:jp0 G l1 l2 b=true):G b=true∧b≠l1∧b≠l2:=by
 unfold jp0 at h
 simpa[Bool.and_eq_true,and_assoc] using h
end
noncomputable def jd4(own:Nat)(caps:List (Str×Nat))(h:D→DSt→Option DSt)(tc:DSt→M Bool)(fe:DSt→M D)(δ:DSt)(xs:List D)(Ω:Sto):Option (List D):=match xs with
 | [x,y]=>(jfb Ω x).bind fun ds=>(jfb Ω y).bind fun es=>(jbx h tc fe (zipD ds es) (jbf own caps δ)).bind fun tot=>if tot.length≤sizeLine∧tot.all jfw=true then some tot else none
 | _=>none
inductive CompZI(own:Nat)(caps:List (Str×Nat))(h:D→DSt→Option DSt)(tc:DSt→M Bool)(fe:DSt→M D)(δ:DSt)(xs:List D)(Ω:Sto)(tot:List D):Prop
 | mk (x y:D) (ds es:List D) (h1:xs=[x,y]) (h2:jfb Ω x=some ds) (h3:jfb Ω y=some es) (h4:jbx h tc fe (zipD ds es) (jbf own caps δ)=some tot) (h5:tot.length≤sizeLine) (h6:tot.all jfw=true)
theorem jo3{own:Nat}{caps:List (Str×Nat)}{h:D→DSt→Option DSt}{tc:DSt→M Bool}{fe:DSt→M D}{δ:DSt}{xs:List D}{Ω:Sto}{tot:List D}(e:jd4 own caps h tc fe δ xs Ω=some tot):CompZI own caps h tc fe δ xs Ω tot:=by
 unfold jd4 at e
 split at e
 ·rename_i x y
  cases h1:jfb Ω x with
  | none=>rw[h1] at e;cases e
  | some ds =>
   cases h2:jfb Ω y with
   | none=>rw[h1,h2] at e;cases e
   | some es =>
    cases h3:jbx h tc fe (zipD ds es) (jbf own caps δ) with
    | none=>rw[h1,h2,Option.bind_some,Option.bind_some,h3] at e;cases e
    | some t =>
     rw[h1,h2,Option.bind_some,Option.bind_some,h3,Option.bind_some] at e
     by_cases hz:t.length≤sizeLine∧t.all jfw=true
     ·rw[if_pos hz] at e
      cases e
      exact⟨x,y,ds,es,rfl,h1,h2,h3,hz.1,hz.2⟩
     ·rw[if_neg hz] at e;cases e
 ·cases e
noncomputable def jp5(own:Nat)(caps:List (Str×Nat))(fl:DSt→MS (List D))(h:D→DSt→Option DSt)(tc:DSt→M Bool)(fe:DSt→M D):DSt→MS D:=fun δ=>(fl δ).b fun xs Ω=>(jd4 own caps h tc fe δ xs Ω).map fun tot=>(.ok (.lst tot),Ω)
noncomputable def jjd(own:Nat)(caps:List (Str×Nat))(fl:DSt→MS (List D))(h:D→DSt→Option DSt)(tc:DSt→M Bool)(fe:DSt→M D):DSt→MS D:=fun δ=>(fl δ).b fun xs Ω=>(jd4 own caps h tc fe δ xs Ω).map fun tot=>(.ok (.obj Ω.length),Ω++[.lst tot])
section
variable {X:Cx}{O B:List Nat}{a b elt:Expr}{fl:DSt→MS (List D)}{pos:Pos}
theorem jj7{ts:List Expr}{kk:Nat}{tp p zp:Pos}{ifs:List Expr}{scope:Scope}{own:List Str}{caps:List (Str×Nat)}{h:D→DSt→Option DSt}{tc:DSt→M Bool}{fe:DSt→M D}(hc:X.calm=true)(ck:CapsOk X scope caps)(hgz:Gl X "zip")(hmz:X.mg "zip"=none)(hl:MA X O [a,b] fl)
  (hg:∀ C s0 H0 ex,DG (jax X scope (own++caps.map (·.1)) C s0 H0 ex) [] (.Tuple ts kk tp) h) (ht:∀ C s0 H0 ex,DC (jax X scope (own++caps.map (·.1)) C s0 H0 ex) [] E0 ifs tc)
  (he:∀ C s0 H0 ex,DE (jax X scope (own++caps.map (·.1)) C s0 H0 ex) [] E0 elt fe) (hcf:jc2 O caps=true) (hs:∀ x,foldedSetIterable (.Call (.Name "zip" p) [a,b] [] zp) X.env x=pure x) (hs1:starEach [a,b] X.env=[(false,eval a X.env),(false,eval b X.env)]) (hs2:starEach [b] X.env=[(false,eval b X.env)])
  {pins:List (Addr×Obj)} {s:Shared} {σ:L2.St} {H:Hp} {Q:VK} {ρ₀ ρ:Rho} {S₀ S F:Addr→Bool} {H₀:Hp} {δ:DSt} {Ω Ω1:Sto} {xs:List D} {tot:List D} (I:Inv X pins σ H s) (R:RM ρ₀ S₀ H₀ F X.K X.mg O ρ S H σ δ Ω) (e1:fl δ Ω=some (.ok xs,Ω1)) (e2:jd4 own.length caps h tc fe δ xs Ω1=some tot)
  (k:∀ (Dd:Addr) zs ρ1 S1 H1 H',RM ρ₀ S₀ H₀ F X.K X.mg O ρ1 S1 H1 σ δ Ω1→RLe ρ ρ1→Same (hid H (fob (un F S) σ O)) (hid H1 (fob (un F S1) σ O))→H1 Dd=none→Same H1 H'→H' Dd=some (.lst zs)→(∀ Hx,Reps ρ1 X.K Hx tot zs)→tot.length≤sizeLine→tot.all jfw=true→Q (.ref Dd) H') :
  wpAny (model X.prog X.w) X.A (eval (.ListComp elt [⟨.Tuple ts kk tp,.Call (.Name "zip" p) [a,b] [] zp,ifs,0⟩] scope pos) X.env) (EP X pins σ Q) X.xe s:=by
 refine jjl (own:=own) (g:=tG X.K [] h) (tc:=tB X.K [] E0 tc) (te:=tD X.K [] E0 fe) hc ck (jqx hgz hmz hl hs1 hs2) hg ht he hs pins s σ H Q I ?_
 obtain⟨x,y,ds,es,rfl,w1,w2,hcd,hz,hsc⟩:=jo3 e2
 refine⟨ρ₀,S₀,H₀,F,ρ,S,δ,Ω,R,.ok [x,y],Ω1,e1,fun vs ρ1 S1 H1 R1 l1 v1 r1=>?_⟩
 obtain⟨v,u,rfl,q1,q2⟩:=jk0 r1
 obtain⟨k1,a1,us,rfl,z1⟩:=jrr R1 w1 q1
 obtain⟨k2,a2,ws,rfl,z2⟩:=jrr R1 w2 q2
 have leG:∀ b,fob (jp0 (un F S1) a1 a2) σ O b=true→fob (un F S1) σ O b=true:=fun b hb=>by
  rcases fob_t.mp hb with z|z
  ·exact fob_t.mpr (.inl (jjb z).1)
  ·exact fob_t.mpr (.inr z)
 have notG:∀ c,(c=a1∨c=a2)→S1 c=true→fob (jp0 (un F S1) a1 a2) σ O c=false:=fun c hc hS=>by
  cases e:fob (jp0 (un F S1) a1 a2) σ O c with
  | false=>rfl
  | true =>
   rcases fob_t.mp e with z|z
   ·obtain⟨_,n1,n2⟩:=jjb z
    rcases hc with rfl|rfl
    ·exact absurd rfl n1
    ·exact absurd rfl n2
   ·exact absurd z (R1.base_S hS)
 obtain⟨s1,s1'⟩:=z1 _ leG (notG a1 (.inl rfl))
 obtain⟨s2,s2'⟩:=z2 _ leG (notG a2 (.inr rfl))
 refine⟨k1,k2,a1,a2,us,ws,rfl,jir jan s1,jir jan s2,fun Dd hD=>?_⟩
 exact jnp hcf (R1.rs.show fun b hb=>(jjb hb).1) (jyt s1 s1' s2 s2') hD hcd hz fun zs H' sm hDd rz=>k Dd zs ρ1 S1 H1 H' R1 l1 v1 hD sm hDd (fun Hx=>jfv hsc rz) hz hsc
theorem jsu{ts:List Expr}{kk:Nat}{tp p zp:Pos}{ifs:List Expr}{scope:Scope}{own:List Str}{caps:List (Str×Nat)}{h:D→DSt→Option DSt}{tc:DSt→M Bool}{fe:DSt→M D}(hc:X.calm=true)(ck:CapsOk X scope caps)(hgz:Gl X "zip")(hmz:X.mg "zip"=none)(hl:MA X O [a,b] fl)
  (hg:∀ C s0 H0 ex,DG (jax X scope (own++caps.map (·.1)) C s0 H0 ex) [] (.Tuple ts kk tp) h) (ht:∀ C s0 H0 ex,DC (jax X scope (own++caps.map (·.1)) C s0 H0 ex) [] E0 ifs tc)
  (he:∀ C s0 H0 ex,DE (jax X scope (own++caps.map (·.1)) C s0 H0 ex) [] E0 elt fe) (hcf:autoParam (jc2 O caps=true) zau2._auto_1) (hs:autoParam (∀ x,foldedSetIterable (.Call (.Name "zip" p) [a,b] [] zp) X.env x=pure x) zau4._auto_1) (hs1:autoParam (starEach [a,b] X.env=[(false,eval a X.env),(false,eval b X.env)]) zau2._auto_1) (hs2:autoParam (starEach [b] X.env=[(false,eval b X.env)]) zau2._auto_1) :
  ME X O (.ListComp elt [⟨.Tuple ts kk tp,.Call (.Name "zip" p) [a,b] [] zp,ifs,0⟩] scope pos) (jp5 own.length caps fl h tc fe):=by
 rintro pins s σ H Q I ⟨ρ₀,S₀,H₀,F,ρ,S,δ,Ω,R,r,Ω',hf,k⟩
 rcases MS.b_inv hf with ⟨xs,Ω1,e1,hf⟩|⟨x,e1,rfl⟩
 ·obtain⟨tot,e2,e3⟩:∃ tot,jd4 own.length caps h tc fe δ xs Ω1=some tot∧(Except.ok (D.lst tot),Ω1)=(r,Ω'):=by
   cases e:jd4 own.length caps h tc fe δ xs Ω1 with
   | none=>have hf':(jd4 own.length caps h tc fe δ xs Ω1).map _=some (r,Ω'):=hf;rw[e] at hf';cases hf'
   | some tot=>have hf':(jd4 own.length caps h tc fe δ xs Ω1).map _=some (r,Ω'):=hf;rw[e] at hf';exact⟨tot,rfl,Option.some.inj hf'⟩
  cases e3
  refine jj7 hc ck hgz hmz hl hg ht he hcf hs hs1 hs2 I R e1 e2 fun Dd zs ρ1 S1 H1 H' R1 l1 v1 hD sm hDd rz hz hsc=>?_
  exact k _ ρ1 S1 H' (R1.mono sm) l1 (v1.trans (jaf sm)) (rep_lst.mpr ⟨Dd,zs,rfl,SqL.of (hid_some.mpr ⟨R1.fresh hD,hDd⟩),rz _⟩)
 ·refine jjl (own:=own) (g:=tG X.K [] h) (tc:=tB X.K [] E0 tc) (te:=tD X.K [] E0 fe) hc ck (jqx hgz hmz hl hs1 hs2) hg ht he hs pins s σ H Q I ?_
  exact⟨ρ₀,S₀,H₀,F,ρ,S,δ,Ω,R,.error x,_,e1,trivial⟩
theorem jqc{ts:List Expr}{kk:Nat}{tp p zp:Pos}{ifs:List Expr}{scope:Scope}{own:List Str}{caps:List (Str×Nat)}{h:D→DSt→Option DSt}{tc:DSt→M Bool}{fe:DSt→M D}(hc:X.calm=true)(ck:CapsOk X scope caps)(hgz:Gl X "zip")(hmz:X.mg "zip"=none)(hl:MA X O [a,b] fl)
  (hg:∀ C s0 H0 ex,DG (jax X scope (own++caps.map (·.1)) C s0 H0 ex) [] (.Tuple ts kk tp) h) (ht:∀ C s0 H0 ex,DC (jax X scope (own++caps.map (·.1)) C s0 H0 ex) [] E0 ifs tc)
  (he:∀ C s0 H0 ex,DE (jax X scope (own++caps.map (·.1)) C s0 H0 ex) [] E0 elt fe) (hcf:autoParam (jc2 O caps=true) zau2._auto_1) (hs:autoParam (∀ x,foldedSetIterable (.Call (.Name "zip" p) [a,b] [] zp) X.env x=pure x) zau4._auto_1) (hs1:autoParam (starEach [a,b] X.env=[(false,eval a X.env),(false,eval b X.env)]) zau2._auto_1) (hs2:autoParam (starEach [b] X.env=[(false,eval b X.env)]) zau2._auto_1) :
  ME X O (.ListComp elt [⟨.Tuple ts kk tp,.Call (.Name "zip" p) [a,b] [] zp,ifs,0⟩] scope pos) (jjd own.length caps fl h tc fe):=by
 rintro pins s σ H Q I ⟨ρ₀,S₀,H₀,F,ρ,S,δ,Ω,R,r,Ω',hf,k⟩
 rcases MS.b_inv hf with ⟨xs,Ω1,e1,hf⟩|⟨x,e1,rfl⟩
 ·obtain⟨tot,e2,e3⟩:∃ tot,jd4 own.length caps h tc fe δ xs Ω1=some tot∧(Except.ok (D.obj Ω1.length),Ω1++[SO.lst tot])=(r,Ω'):=by
   cases e:jd4 own.length caps h tc fe δ xs Ω1 with
   | none=>have hf':(jd4 own.length caps h tc fe δ xs Ω1).map _=some (r,Ω'):=hf;rw[e] at hf';cases hf'
   | some tot=>have hf':(jd4 own.length caps h tc fe δ xs Ω1).map _=some (r,Ω'):=hf;rw[e] at hf';exact⟨tot,rfl,Option.some.inj hf'⟩
  cases e3
  refine jj7 hc ck hgz hmz hl hg ht he hcf hs hs1 hs2 I R e1 e2 fun Dd zs ρ1 S1 H1 H' R1 l1 v1 hD sm hDd rz hz hsc=>?_
  let H3:Hp:=fun b=>if b=Dd then none else H' b
  have h3:H3 Dd=none:=if_pos rfl
  have n3:∀ b,b≠Dd→H3 b=H' b:=fun b hb=>if_neg hb
  have e3:upd H3 Dd (.lst zs)=H':=by
   funext b
   by_cases hb:b=Dd
   ·subst hb;rw[jag,hDd]
   ·rw[jaj hb,n3 b hb]
  have s3:Same H1 H3:=fun b o q=>by rw[n3 b (jas q hD)];exact sm b o q
  obtain⟨t1,t2,t3⟩:=(R1.mono s3).newL h3 (rz _)
  rw[e3] at t1 t3
  exact k _ _ _ _ t1 (l1.trans t2) (v1.trans ((jaf s3).trans t3)) (rep_obj.mpr ⟨Dd,by unfold addR;rw[if_pos rfl],rfl⟩)
 ·refine jjl (own:=own) (g:=tG X.K [] h) (tc:=tB X.K [] E0 tc) (te:=tD X.K [] E0 fe) hc ck (jqx hgz hmz hl hs1 hs2) hg ht he hs pins s σ H Q I ?_
  exact⟨ρ₀,S₀,H₀,F,ρ,S,δ,Ω,R,.error x,_,e1,trivial⟩
end
noncomputable def jfp(ys:List D):MS D:=fun Ω=>if ys.length≤sizeLine then some (.ok (.obj Ω.length),Ω++[.lst ys]) else none
noncomputable def jkk(own:Nat)(caps:List (Str×Nat))(fi:DSt→MS (List D))(h:D→DSt→Option DSt)(fe:DSt→MS D):DSt→MS D:=fun δ=>(fi δ).b fun ds=>(if ds.length≤sizeLine then jgx h fe ds (jbf own caps δ) else fun _=>none).b fun ys=>jfp ys
section
variable {X:Cx}{O:List Nat}{elt iter tg:Expr}{fe:DSt→MS D}{fi:DSt→MS (List D)}{pos:Pos}
theorem jr1{X:Cx}{O:List Nat}{own:List Str}{caps:List (Str×Nat)}{fe:DSt→MS D}{fi:DSt→MS (List D)}{h:D→DSt→Option DSt}{σ:St}{H:Hp}{Q:VK}(hcf:jc2 O caps=true)(hh:tE X.K X.mg O (jkk own.length caps fi h fe) σ H Q) :
  jrg own.length caps (tEI X.K X.mg O fi) (tG X.K [] h) jjt (tE X.K X.mg [] fe) σ H Q:=by
 obtain⟨ρ₀,S₀,H₀,F,ρ,S,δ,Ω,R,r,Ω',hf,k⟩:=hh
 rcases MS.b_inv hf with ⟨ds,Ω1,e1,hfA⟩|⟨y,e1,rfl⟩
 ·refine⟨ρ₀,S₀,H₀,F,ρ,S,δ,Ω,R,.ok ds,Ω1,e1,fun J ρ1 S1 H1 R1 l1 v1 it Dd hD=>?_⟩
  by_cases hz:ds.length≤sizeLine
  ·rw[if_pos hz] at hfA
   obtain⟨T,Ωe,hT,hfin⟩:∃ T Ωe,jgx h fe ds (jbf own.length caps δ) Ω1=some (T,Ωe)∧∀ tot,T=.ok tot→jfp tot Ωe=some (r,Ω'):=by
    rcases MS.b_inv hfA with ⟨tot,Ω2,e2,hfB⟩|⟨y,e2,rfl⟩
    ·refine⟨.ok tot,Ω2,e2,fun tot' ht=>?_⟩
     cases ht
     exact hfB
    ·exact⟨.error y,_,e2,fun _ h=>by cases h⟩
   let G:Addr→Bool:=fun b=>fob F σ O b || b == Dd
   have Gt:∀ b,G b=true↔fob F σ O b=true∨b=Dd:=fun b=>by show (_ || _)=true↔_;rw[Bool.or_eq_true,beq_iff_eq]
   have noS:S1 Dd=false:=R1.noS hD
   have hff:∀ b,G b=true→S1 b=false:=fun b hb=>by
    rcases (Gt b).mp hb with z|rfl
    ·cases e:S1 b with
     | false=>rfl
     | true =>
      rcases fob_t.mp z with q|q
      ·rw[R1.ff b q] at e;cases e
      ·exact absurd q (R1.base_S e)
    ·exact noS
   have vis:∀ {H2:Hp},Same H1 H2→Same (hid H1 (fob (un F S1) σ O)) (hid H2 (un G S1)):=fun {H2} e b o q=>by
    obtain⟨q1,q2⟩:=hid_some.mp q
    refine hid_some.mpr ⟨?_,e b o q2⟩
    cases z:un G S1 b with
    | false=>rfl
    | true =>
     rcases un_t.mp z with z|z
     ·rcases (Gt b).mp z with z|rfl
      ·have h2:fob (un F S1) σ O b=true:=by rw[← jea];exact un_t.mpr (.inl z)
       rw[h2] at q1;cases q1
      ·rw[hD] at q2;cases q2
     ·have h2:fob (un F S1) σ O b=true:=jd8 b (un_t.mpr (.inr z))
      rw[h2] at q1;cases q1
   have sm0:Same H1 (upd H1 Dd (.lst [])):=jal hD
   have rs0:RS ρ1 X.K H1 (upd H1 Dd (.lst [])) (un G S1) [] (jbn own.length caps σ) (jbf own.length caps δ):=by
    refine⟨by simp[jbn,jbf],sm0,fun b hb=>?_,fun i d hd _=>?_,fun i hi=>absurd hi (by simp),fun i hi=>absurd hi (by simp)⟩
    ·rcases un_t.mp hb with z|z
     ·rcases (Gt b).mp z with z|rfl
      ·refine jd2 fun q=>?_
       have h2:fob (un F S1) σ O b=true:=by rw[← jea];exact un_t.mpr (.inl z)
       rw[R1.fresh q] at h2;cases h2
      ·rw[jag];exact fun q=>nomatch q
     ·exact jd2 (R1.sto.fin b z)
    ·obtain⟨p,p1,p2,p3⟩:=jeu hd
     have hO:p.2∉O:=fun z=>by
      have:=List.all_eq_true.mp hcf p (List.mem_of_getElem? p1)
      rw[List.contains_iff_mem.mpr z] at this;cases this
     obtain⟨v,q1,q2⟩:=R1.rs.val p.2 d p3 hO
     exact⟨v,jfk p1 p2 q1,by rw[ja3];exact q2.mono (vis sm0)⟩
   have R0:RM ρ1 S1 (upd H1 Dd (.lst [])) G X.K X.mg [] ρ1 S1 (upd H1 Dd (.lst [])) (jbn own.length caps σ) (jbf own.length caps δ) Ω1 :=
    ⟨rs0.rebase,RLe.refl _,fun _ _ _ h=>h,fun _ h=>h,fun _ h=>.inl h,fun i hi=>absurd hi (by simp),hff,by rw[ja3];exact R1.sto.mono (R1.at_store sm0) (vis sm0) (jrk (jf8 R1.sto.tv fun _ z=>nomatch z) (vis sm0))⟩
   refine⟨fun i m σ' H'=>m=ds.length-i∧i≤ds.length∧CEI X ρ1 S1 H1 (hid H1 (fob (un F S1) σ O)) G Dd T Ωe (jgx h fe (ds.drop i)) i σ' H',
    ⟨ds.length,by simp,Nat.zero_le _,ρ1,S1,_,Ω1,[],[],T,R0,jag,Reps.nil,rfl,hT,by cases T<;>rfl,vis sm0,RLe.refl _,fun b o _ q=>sm0 b o q,fun _ q=>q,fun _ q=>.inl q⟩,?_⟩
   rintro i m σ' H' ⟨rfl,hil,ρ',S',δ',Ω2,done,zs,rr,R',hDd,rz,hlen,hcd,hTT,f',l',sm',old',new'⟩
   have fv:Same (hid H1 (fob (un F S1) σ O)) (hid H' (fob (un G S') σ' [])):=by rw[ja3];exact f'
   obtain⟨j1,j2⟩:=it H' (fob (un G S') σ' []) i fv (fun p hp=>R'.fresh hp)
   by_cases hlt:i<ds.length
   ·obtain⟨go,yld⟩:=j1 hlt
    refine .inr ⟨go,CEI X ρ1 S1 H1 (hid H1 (fob (un F S1) σ O)) G Dd T Ωe (jgx h fe (ds.drop (i+1))) (i+1),fun σ2 H2 q=>⟨ds.length-(i+1),by omega,rfl,hlt,q⟩,fun x H2 y=>?_⟩
    obtain⟨s2,d,hd,rd⟩:=yld x H2 y
    have hdr:ds.drop i=d::ds.drop (i+1):=by
     rw[List.drop_eq_getElem_cons hlt]
     have:ds[i]=d:=by rw[List.getElem?_eq_getElem hlt] at hd;exact Option.some.inj hd
     rw[this]
    rw[hdr] at hcd
    unfold jgx at hcd
    cases e2:h d δ' with
    | none=>rw[e2] at hcd;cases hcd
    | some δ1 =>
     rw[e2] at hcd
     dsimp only at hcd
     have R2:=R'.mono s2
     refine⟨ρ',_,un G S',δ',d,δ1,R2.rs,rd.rho l',e2,fun σ3 ef R3=>?_⟩
     have R3':=(R2.next R3 (by rw[ef];exact Same.refl _)).here
     unfold jjt
     dsimp only
     rw[if_pos rfl]
     rcases MS.b_inv hcd with ⟨yv,Ω3,e3,hcA⟩|⟨yv,e3,rfl⟩
     ·refine⟨ρ',S',H2,G,ρ',S',δ1,Ω2,R3',.ok yv,Ω3,e3,fun v ρ5 S5 H5 R5 l5 v5 r5=>?_⟩
      rw[ja3,ja3] at v5
      rw[ja3] at r5
      have GD:G Dd=true:=(Gt Dd).mpr (.inr rfl)
      have h5D:H5 Dd=some (.lst zs):=R5.same Dd _ (R'.ff Dd GD) (s2 _ _ hDd)
      refine⟨zs,h5D,by omega,?_⟩
      have hh:hid (upd H5 Dd (.lst (zs++[v]))) (un G S5)=hid H5 (un G S5):=jcz (un_t.mpr (.inl GD))
      have vv:Same (hid H' (un G S')) (hid H5 (un G S5)):=(jaf s2).trans v5
      rcases MS.b_inv hcA with ⟨ys,Ω4,e4,hcB⟩|⟨ys,e4,rfl⟩
      ·cases hcB
       refine⟨ρ5,S5,δ1,Ω3,done++[yv],zs++[v],.ok ys,R5.updG GD,jag,?_,by rw[List.length_append,hlen];rfl,e4,?_,?_,l'.trans l5,?_,fun b q=>R5.old b (old' b q),?_⟩
       ·rw[hh];exact ((rz.rho l5).mono vv).append (Reps.cons r5 Reps.nil)
       ·rw[hTT];show Except.ok (done++yv::ys)=Except.ok (done++[yv]++ys);rw[List.append_assoc];rfl
       ·rw[hh];exact f'.trans vv
       ·intro b o q1 q2
        have nb:b≠Dd:=fun z=>by rw[z,hD] at q2;cases q2
        rw[jaj nb]
        have hb':=sm' b o q1 q2
        cases e:S' b with
        | false=>exact R5.same b o e (s2 _ _ hb')
        | true =>
         rcases new' b e with z|z
         ·rw[z] at q1;cases q1
         ·rw[z] at q2;cases q2
       ·intro b q
        rcases R5.new b q with z|z
        ·exact new' b z
        ·cases e:H1 b with
         | none=>exact .inr rfl
         | some o =>
          cases e1':S1 b with
          | true=>exact .inl rfl
          | false =>
           have:=s2 _ _ (sm' b o e1' e)
           rw[z] at this;cases this
      ·refine⟨ρ5,S5,δ1,Ω3,done++[yv],zs++[v],.error ys,R5.updG GD,jag,?_,by rw[List.length_append,hlen];rfl,e4,hTT,?_,l'.trans l5,?_,fun b q=>R5.old b (old' b q),?_⟩
       ·rw[hh];exact ((rz.rho l5).mono vv).append (Reps.cons r5 Reps.nil)
       ·rw[hh];exact f'.trans vv
       ·intro b o q1 q2
        have nb:b≠Dd:=fun z=>by rw[z,hD] at q2;cases q2
        rw[jaj nb]
        have hb':=sm' b o q1 q2
        cases e:S' b with
        | false=>exact R5.same b o e (s2 _ _ hb')
        | true =>
         rcases new' b e with z|z
         ·rw[z] at q1;cases q1
         ·rw[z] at q2;cases q2
       ·intro b q
        rcases R5.new b q with z|z
        ·exact new' b z
        ·cases e:H1 b with
         | none=>exact .inr rfl
         | some o =>
          cases e1':S1 b with
          | true=>exact .inl rfl
          | false =>
           have:=s2 _ _ (sm' b o e1' e)
           rw[z] at this;cases this
     ·exact⟨ρ',S',H2,G,ρ',S',δ1,Ω2,R3',.error yv,_,e3,trivial⟩
   ·have ei:i=ds.length:=by omega
    subst ei
    rw[List.drop_length] at hcd
    cases hcd
    have hTd:T=.ok done:=by rw[hTT];show Except.ok (done++[])=_;rw[List.append_nil]
    have g1:=hfin done hTd
    unfold jfp at g1
    rw[if_pos (by rw[← rz.length,hlen];exact hz)] at g1
    cases g1
    have GD:G Dd=true:=(Gt Dd).mpr (.inr rfl)
    have nS':S' Dd=false:=R'.ff Dd GD
    let H3:Hp:=fun b=>if b=Dd then none else H' b
    have h3:H3 Dd=none:=if_pos rfl
    have n3:∀ b,b≠Dd→H3 b=H' b:=fun b hb=>if_neg hb
    have e3:upd H3 Dd (.lst zs)=H':=by
     funext b
     by_cases hb:b=Dd
     ·subst hb;rw[jag,hDd]
     ·rw[jaj hb,n3 b hb]
    have le1:Same (hid H' (un G S')) (hid H3 (un (fob F σ O) S')):=fun b o q=>by
     obtain⟨q1,q2⟩:=hid_some.mp q
     have hb:b≠Dd:=fun z=>by rw[z,un_t.mpr (.inl GD)] at q1;cases q1
     refine hid_some.mpr ⟨?_,by rw[n3 b hb];exact q2⟩
     cases e:un (fob F σ O) S' b with
     | false=>rfl
     | true =>
      rcases un_t.mp e with z|z
      ·rw[un_t.mpr (.inl ((Gt b).mpr (.inl z)))] at q1;cases q1
      ·rw[un_t.mpr (.inr z)] at q1;cases q1
    have sto:=R'.sto
    rw[ja3] at sto
    obtain⟨t1,t2⟩:=R1.call (H':=H3) l' (fun b o q1 q2=>by rw[n3 b (jas q2 hD)];exact sm' b o q1 q2) old' new' (fun b hb=>R'.ff b ((Gt b).mpr (.inl hb))) (sto.mono (fun b hb=>n3 b (by rintro rfl;rw[nS'] at hb;cases hb)) le1 fun b xs q=>le1 b _ (sto.tv b xs (by rw[← n3 b (fun z=>by rw[z,h3] at q;cases q)];exact q)))
    have rz3:Reps ρ' X.K (hid H3 (fob (un F S') σ O)) done zs:=by rw[← jea];exact rz.mono le1
    obtain⟨y1,y2,y3⟩:=t1.newL h3 rz3
    rw[e3] at y1 y3
    exact .inl ⟨j2 rfl,k _ _ _ _ y1 (l1.trans (l'.trans y2)) (v1.trans (t2.trans y3)) (rep_obj.mpr ⟨Dd,by unfold addR;rw[if_pos rfl],rfl⟩)⟩
  ·rw[if_neg hz] at hfA
   rcases MS.b_inv hfA with ⟨tot,Ω2,e2,_⟩|⟨y,e2,_⟩<;>cases e2
 ·exact⟨ρ₀,S₀,H₀,F,ρ,S,δ,Ω,R,.error y,_,e1,trivial⟩
theorem js2{B:List Nat}{i:Nat}{x:Str}{pos' cpos:Pos}{scope:Scope}{own:List Str}{caps:List (Str×Nat)}{h:D→DSt→Option DSt}(hN:X.N.Nodup)(hc:X.calm=true)(ck:CapsOk X scope caps)(hi:MI X O tg iter fi)
  (hg:∀ C s0 H0 ex,DG (jax X scope (own++caps.map (·.1)) C s0 H0 ex) [] tg h) (he:∀ C s0 H0 ex,ME (jax X scope (own++caps.map (·.1)) C s0 H0 ex) [] elt fe) (ho:autoParam (O.contains i=false) zau2._auto_1) (hix:autoParam (X.N[i]? = some x) zau2._auto_1) (hx:autoParam (Loc X.env.scope x) zau8._auto_1)
  (hsw:autoParam (swapsWith (.ListComp elt [⟨tg,iter,[],0⟩] scope cpos) (some (.Name x pos')) pos.line X.env=pure true) zau2._auto_1)
  (hf:autoParam (X.fn x=true∨X.env.scope.names.lookup x=some .local) zau0._auto_1) (hcf:autoParam (jc2 O caps=true) zau2._auto_1) (hs:autoParam (∀ x,foldedSetIterable iter X.env x=pure x) zau4._auto_1) :
  MSt X O O B (.Assign [.Name x pos'] (.ListComp elt [⟨tg,iter,[],0⟩] scope cpos) pos) (eSet i (jkk own.length caps fi h fe)):=by
 rintro pins s σ H Dn I ⟨ρ₀,S₀,H₀,F,ρ,S,δ,Ω,R,r,Ω',hg',k⟩
 have ho':i∉O:=fun z=>by rw[List.contains_iff_mem.mpr z] at ho;cases ho
 refine jq2 (own:=own) (g:=tG X.K [] h) (tc:=jjt) (te:=tE X.K X.mg [] fe) hc ck hi hg (fun _ _ _ _=>jqu) he hN hix hx hsw hf hs pins s σ H Dn I (jr1 hcf ?_)
 rcases MS.b_inv hg' with ⟨d,Ω1,e1,hg'⟩|⟨y,e1,rfl⟩
 ·cases hg'
  refine⟨ρ₀,S₀,H₀,F,ρ,S,δ,Ω,R,.ok d,_,e1,fun v ρ1 S1 H1 R1 l1 v1 r1=>?_⟩
  refine k ρ1 S1 _ H1 (R1.set ho' r1) l1 ?_
  rw[jck ho']
  exact v1
 ·exact⟨ρ₀,S₀,H₀,F,ρ,S,δ,Ω,R,.error y,_,e1,trivial⟩
end
section
variable {X:Cx}{O:List Nat}{a b e:Expr}{es:List Expr}{fa fb:DSt→MS D}{fl:DSt→MS (List D)}{pos:Pos}
noncomputable def jh4(fl:DSt→MS (List D))(fb:DSt→MS D):DSt→MS D:=fun δ=>(fl δ).b fun xs=>if xs.length≤sizeLine then (fb δ).b fun y=>match y with
  | .int k=>if -(2 ^ 63)≤k∧k<2 ^ 63∧xs.length*k.toNat≤sizeLine then jfp (List.replicate k.toNat xs).flatten else fun _=>none
  | _=>fun _=>none
 else fun _=>none
theorem jjf{p2:Pos}(hl:MA X O es fl)(hb:ME X O b fb):ME X O (.BinOp (.List es p2) .Mult b pos) (jh4 fl fb):=by
 rintro pins s σ H Q I ⟨ρ₀,S₀,H₀,F,ρ,S,δ,Ω,R,r,Ω',hf,k⟩
 refine jwq jzn (jku hl) hb pins s σ H Q I ?_
 rcases MS.b_inv hf with ⟨xs,Ω1,e1,hf⟩|⟨x,e1,rfl⟩
 ·refine⟨ρ₀,S₀,H₀,F,ρ,S,δ,Ω,R,.ok xs,Ω1,e1,fun us ρ1 S1 H1 R1 l1 v1 r1=>?_⟩
  by_cases hz0:xs.length≤sizeLine
  ·rw[if_pos hz0] at hf
   refine⟨by rw[r1.length];exact hz0,fun p hp=>?_⟩
   have sm:=jal hp (o:=.lst us)
   have R2:=R1.mono sm
   rcases MS.b_inv hf with ⟨y,Ω2,e2,hf⟩|⟨y,e2,rfl⟩
   ·refine⟨ρ₀,S₀,H₀,F,ρ1,S1,δ,Ω1,R2,.ok y,Ω2,e2,fun w ρ2 S2 H2 R3 l2 v2 r2=>?_⟩
    cases y with
    | int n =>
     dsimp only at hf
     by_cases hz:-(2 ^ 63)≤n∧n<2 ^ 63∧xs.length*n.toNat≤sizeLine
     ·rw[if_pos hz] at hf
      cases rep_int.mp r2
      have hp2:H2 p=some (.lst us):=by
       have:hid (upd H1 p (.lst us)) (fob (un F S1) σ O) p=some (.lst us):=hid_some.mpr ⟨R1.fresh hp,jag⟩
       exact (hid_some.mp (v2 p _ this)).2
      refine⟨p,n,us,rfl,rfl,hp2,hz.1,hz.2.1,by rw[r1.length];exact hz.2.2,fun q hq=>?_⟩
      have rr:Reps ρ2 X.K (hid H2 (fob (un F S2) σ O)) (List.replicate n.toNat xs).flatten (List.replicate n.toNat us).flatten:=(((r1.mono (jaf sm)).rho l2).mono v2).rep n.toNat
      unfold jfp at hf
      by_cases hy:(List.replicate n.toNat xs).flatten.length≤sizeLine
      ·rw[if_pos hy] at hf
       cases hf
       obtain⟨t1,t2,t3⟩:=R3.newL hq rr
       exact k _ _ _ _ t1 (l1.trans (l2.trans t2)) (v1.trans ((jaf sm).trans (v2.trans t3))) (rep_obj.mpr ⟨q,by unfold addR;rw[if_pos rfl],rfl⟩)
      ·rw[if_neg hy] at hf;cases hf
     ·rw[if_neg hz] at hf;cases hf
    | _=>cases hf
   ·exact⟨ρ₀,S₀,H₀,F,ρ1,S1,δ,Ω1,R2,.error y,_,e2,trivial⟩
  ·rw[if_neg hz0] at hf;cases hf
 ·exact⟨ρ₀,S₀,H₀,F,ρ,S,δ,Ω,R,.error x,_,e1,trivial⟩
noncomputable def tupS(xs:List D):MS D:=fun Ω=>match xs with
 | [.obj n]=>match Ω[n]? with
  | some (.lst ds)=>if ds.all jfw=true then some (.ok (.tup ds),Ω) else none
  | _=>none
 | _=>none
inductive TupSI(xs:List D)(Ω Ω':Sto)(r:Except XD D):Prop
 | mk (n:Nat) (ds:List D) (h1:xs=[.obj n]) (h2:Ω[n]? = some (.lst ds)) (h3:ds.all jfw=true) (h4:r=.ok (.tup ds)) (h5:Ω'=Ω)
theorem jtt{xs:List D}{Ω Ω':Sto}{r:Except XD D}(h:tupS xs Ω=some (r,Ω')):TupSI xs Ω Ω' r:=by
 unfold tupS at h
 split at h
 ·rename_i n
  split at h
  ·rename_i ds hn
   by_cases hs:ds.all jfw=true
   ·rw[if_pos hs] at h;cases h;exact⟨n,ds,rfl,hn,hs,rfl,rfl⟩
   ·rw[if_neg hs] at h;cases h
  ·cases h
 ·cases h
theorem jlx{p:Pos}(hG:Gl X "tuple")(hm:X.mg "tuple"=none)(hl:MA X O [a] fl)(he:autoParam (starEach [a] X.env=(false,eval a X.env)::starEach [] X.env) zau2._auto_1)(hpl:autoParam ((backTo pos (starEach [] X.env)).any (·.1)=false) zau2._auto_1) :
  ME X O (.Call (.Name "tuple" p) [a] [] pos) (fun δ=>(fl δ).b tupS):=by
 rintro pins s σ H Q I ⟨ρ₀,S₀,H₀,F,ρ,S,δ,Ω,R,r,Ω',hf,k⟩
 refine jfu ji5 hG hm jrw hl (by decide) (by decide) he hpl pins s σ H Q I ?_
 rcases MS.b_inv hf with ⟨xs,Ω1,e1,hf⟩|⟨x,e1,rfl⟩
 ·refine⟨ρ₀,S₀,H₀,F,ρ,S,δ,Ω,R,.ok xs,Ω1,e1,fun us ρ1 S1 H1 R1 l1 v1 r1=>?_⟩
  obtain⟨n,ds,rfl,hn,hs,rfl,rfl⟩:=jtt hf
  obtain⟨v,rfl,q⟩:=jhu r1
  obtain⟨ad,q1,q2⟩:=rep_obj.mp q
  obtain⟨ad',p1,p2,ys,p3,p4⟩:=R1.sto.ats n _ hn
  rw[q1] at p1;cases p1
  refine⟨ad,ys,by rw[q2],.inl ⟨SqL.of p3,fun l hl'=>?_⟩⟩
  exact k _ ρ1 S1 _ (R1.mono (jal hl')) l1 (v1.trans (jaf (jal hl'))) (jbc hl' (R1.fresh hl') (jfv hs p4))
 ·exact⟨ρ₀,S₀,H₀,F,ρ,S,δ,Ω,R,.error x,_,e1,trivial⟩
end
end DL
namespace L2
open PySem PySem.Spec PyProof.Rows
section
variable {prog:Program}{w:World}{A:Around}{E:Value→Shared→Prop}{s:Shared}
end
end L2
namespace DL
open PySem PySem.Spec L2
section
variable {X:Cx}{O O' B:List Nat}{E:XK}{a b c e:Expr}{es:List Expr}{fa fb fc:DSt→M D}{fl:DSt→M (List D)}{pos:Pos}
theorem jkt:OpD X.K jmv (fun x y H Q=>y=.non∧Q (.bl (!decide (x=.non))) H):=by
 intro x y d hd ρ H G u v Q hG ru rv k
 cases y with
 | non =>
  cases hd
  refine⟨rep_non.mp rv,?_⟩
  have e:decide (u=V.non)=jub x:=by
   cases x with
   | non=>cases rep_non.mp ru;rfl
   | bl _=>cases rep_bl.mp ru;rfl
   | int _=>cases rep_int.mp ru;rfl
   | str _=>cases rep_str.mp ru;rfl
   | ty _=>cases rep_ty.mp ru;rfl
   | obj _=>obtain⟨_,_,rfl⟩:=rep_obj.mp ru;rfl
   | tup _=>obtain⟨_,_,rfl,_⟩:=rep_tup.mp ru;rfl
   | lst _=>obtain⟨_,_,rfl,_⟩:=rep_lst.mp ru;rfl
  rw[e]
  exact k _ H (Same.refl H) (rep_bl.mpr rfl)
 | _=>cases hd
end
end DL
namespace L2
open PySem PySem.Spec PyProof.Rows
section
variable {α β:Type}{c:Nat→Nat→Bool}{P:Nat→Nat→Prop}
noncomputable def KRun(c:Nat→Nat→Bool)(P:Nat→Nat→Prop):PySem.W.KasT α→(α→Prop)→Prop
 | .ret a,Q=>Q a
 | .ask i j k,Q=>P i j∧KRun c P (k (c i j)) Q
theorem KRun.bind{f:α→PySem.W.KasT β}{Q:β→Prop}:∀ {t:PySem.W.KasT α},KRun c P t (fun a=>KRun c P (f a) Q)→KRun c P (t.bind f) Q
 | .ret a,h=>h
 | .ask i j k,h=>⟨h.1,KRun.bind (t:=k (c i j)) h.2⟩
theorem KRun.mono{Q Q':α→Prop}(hq:∀ a,Q a→Q' a):∀ {t:PySem.W.KasT α},KRun c P t Q→KRun c P t Q'
 | .ret a,h=>hq a h
 | .ask i j k,h=>⟨h.1,KRun.mono hq (t:=k (c i j)) h.2⟩
theorem KRun.wp{cmp:Nat→Nat→(Bool→Shared→Prop)→Shared→Prop}{s:Shared}{G:α→Shared→Prop}(h:∀ i j C,P i j→C (c i j) s→cmp i j C s):∀ {t:PySem.W.KasT α} {Q:α→Prop},KRun c P t Q→(∀ a,Q a→G a s)→t.kasWp cmp G s
 | .ret a,Q,h1,h2=>h2 a h1
 | .ask i j k,Q,h1,h2=>h i j _ h1.1 (KRun.wp h (t:=k (c i j)) h1.2 h2)
end
noncomputable def SK(k:Nat→Int)(p:Array Nat)(i:Nat):Int:=k (p.getD i 0)
theorem jfc{k:Nat→Int}{p q:Array Nat}{i j:Nat}(h:p[i]? = q[j]?):SK k p i=SK k q j:=by
 unfold SK
 rw[Array.getD_eq_getD_getElem?,Array.getD_eq_getD_getElem?,h]
noncomputable abbrev GP(n:Nat)(p:Array Nat):Prop:=p.Perm (List.range n).toArray
noncomputable abbrev PKn(n:Nat)(i j:Nat):Prop:=i<n∧j<n∧i≠j
section
variable {n:Nat}{k:Nat→Int}{p:Array Nat}
theorem GP.sz(g:GP n p):p.size=n:=by rw[g.size_eq,List.size_toArray,List.length_range]
theorem GP.lst(g:GP n p):p.toList.Perm (List.range n):=by
 have:=Array.perm_iff_toList_perm.mp g
 simpa using this
theorem GP.lt(g:GP n p){i:Nat}(h:i<n):p.getD i 0<n:=by
 have hi:i<p.size:=by rw[g.sz];exact h
 rw[Array.getD_eq_getD_getElem?,getElem?_pos p i hi]
 have:p[i]∈p.toList:=by simp
 exact List.mem_range.mp (g.lst.mem_iff.mp this)
theorem GP.ne(g:GP n p){i j:Nat}(hi:i<n)(hj:j<n)(h:i≠j):p.getD i 0≠p.getD j 0:=by
 have hi':i<p.size:=by rw[g.sz];exact hi
 have hj':j<p.size:=by rw[g.sz];exact hj
 rw[Array.getD_eq_getD_getElem?,getElem?_pos p i hi',Array.getD_eq_getD_getElem?,getElem?_pos p j hj']
 intro e
 have nd:p.toList.Nodup:=g.lst.nodup_iff.mpr List.nodup_range
 exact h ((List.getElem_inj (xs:=p.toList) (h₀:=by simpa using hi') (h₁:=by simpa using hj') nd).mp (by simpa using e))
variable (kd:∀ i j,i<n→j<n→k i=k j→i=j)
include kd
theorem ju2(g:GP n p){i j:Nat}(hi:i<n)(hj:j<n)(h:i≠j):SK k p i≠SK k p j:=fun e=>g.ne hi hj h (kd _ _ (g.lt hi) (g.lt hj) e)
theorem jmc(g:GP n p):∀ (f m:Nat),1≤m→m+f≤n→KRun (fun i j=>decide (k i<k j)) (PKn n) (PySem.W.kas_asc p f m) fun r=>m≤r∧r≤m+f∧(∀ i,m≤i→i<r→SK k p (i-1)<SK k p i)∧(r<m+f→SK k p r<SK k p (r-1))
 | 0,m,_,_=>⟨Nat.le_refl _,Nat.le_refl _,fun i h1 h2=>by omega,fun h=>by omega⟩
 | f+1,m,h1,h2=>by
  refine⟨⟨g.lt (by omega),g.lt (by omega),g.ne (by omega) (by omega) (by omega)⟩,?_⟩
  dsimp only
  by_cases e:SK k p m<SK k p (m-1)
  ·rw[show decide (k (p.getD m 0)<k (p.getD (m-1) 0))=true from decide_eq_true e,if_pos rfl]
   exact⟨Nat.le_refl _,by omega,fun i h1 h2=>by omega,fun _=>e⟩
  ·rw[show decide (k (p.getD m 0)<k (p.getD (m-1) 0))=false from decide_eq_false e,if_neg (by decide)]
   refine (jmc g f (m+1) (by omega) (by omega)).mono fun r ⟨r1,r2,r3,r4⟩=>⟨by omega,by omega,fun i i1 i2=>?_,fun h=>r4 (by omega)⟩
   by_cases hi:i=m
   ·subst hi
    have:=ju2 kd g (i:=i) (j:=i-1) (by omega) (by omega) (by omega)
    omega
   ·exact r3 i (by omega) i2
theorem jne(g:GP n p):∀ (f m:Nat),1≤m→m+f≤n→KRun (fun i j=>decide (k i<k j)) (PKn n) (PySem.W.kas_desc f p m 0) fun r=>r.1=p∧r.2.2=0∧m≤r.2.1∧r.2.1≤m+f∧∀ i,m≤i→i<r.2.1→SK k p i<SK k p (i-1)
 | 0,m,_,_=>⟨rfl,rfl,Nat.le_refl _,Nat.le_refl _,fun i h1 h2=>by dsimp only at h2;omega⟩
 | f+1,m,h1,h2=>by
  refine⟨⟨g.lt (by omega),g.lt (by omega),g.ne (by omega) (by omega) (by omega)⟩,?_⟩
  dsimp only
  by_cases e:SK k p m<SK k p (m-1)
  ·rw[show decide (k (p.getD m 0)<k (p.getD (m-1) 0))=true from decide_eq_true e,if_pos rfl,if_neg (by omega)]
   refine (jne g f (m+1) (by omega) (by omega)).mono fun r ⟨r1,r2,r3,r4,r5⟩=>⟨r1,r2,by omega,by omega,fun i i1 i2=>?_⟩
   by_cases hi:i=m
   ·subst hi;exact e
   ·exact r5 i (by omega) i2
  ·rw[show decide (k (p.getD m 0)<k (p.getD (m-1) 0))=false from decide_eq_false e,if_neg (by decide)]
   refine⟨⟨g.lt (by omega),g.lt (by omega),g.ne (by omega) (by omega) (by omega)⟩,?_⟩
   have:=ju2 kd g (i:=m) (j:=m-1) (by omega) (by omega) (by omega)
   have e2:SK k p (m-1)<SK k p m:=by omega
   dsimp only
   rw[show decide (k (p.getD (m-1) 0)<k (p.getD m 0))=true from decide_eq_true e2,if_pos rfl]
   exact⟨rfl,rfl,Nat.le_refl _,by dsimp only;omega,fun i i1 i2=>by dsimp only at i2;omega⟩
omit kd
noncomputable def Asc(k:Nat→Int)(p:Array Nat)(m:Nat):Prop:=∀ i,1≤i→i<m→SK k p (i-1)<SK k p i
theorem Asc.lt{m:Nat}(h:Asc k p m):∀ (d i:Nat),i+d+1<m→SK k p i<SK k p (i+d+1)
 | 0,i,hi=>by
  have:=h (i+1) (by omega) hi
  simpa using this
 | d+1,i,hi=>by
  have h1:=Asc.lt h d i (by omega)
  have h2:=h (i+(d+1)+1) (by omega) hi
  have e:i+(d+1)+1-1=i+d+1:=by omega
  rw[e] at h2
  omega
theorem Asc.lt'{m i j:Nat}(h:Asc k p m)(hij:i<j)(hj:j<m):SK k p i<SK k p j:=by
 have:=h.lt (j-i-1) i (by omega)
 rwa [show i+(j-i-1)+1=j by omega] at this
theorem jAb(g:GP n p)(i j:Nat):GP n (PySem.W.kas_rev p i j):=(mirror_perm p i j _).trans g
theorem jur(g:GP n p){m:Nat}(hm:m≤n)(i:Nat):SK k (PySem.W.kas_rev p 0 m) i=if i<m then SK k p (m-1-i) else SK k p i:=by
 have e:=getElem?_mirror_all (xs:=p) (i:=0) (j:=m) (by rw[g.sz];exact hm) i
 unfold PySem.W.kas_rev
 by_cases h:i<m
 ·rw[if_pos h]
  rw[if_pos ⟨Nat.zero_le _,h⟩] at e
  exact jfc (e.trans (by congr 1;omega))
 ·rw[if_neg h]
  rw[if_neg (by omega)] at e
  exact jfc e
include kd
theorem jra(g:GP n p)(h1:1≤n):KRun (fun i j=>decide (k i<k j)) (PKn n) (PySem.W.kas_count n p) fun r=>GP n r.2∧1≤r.1∧r.1≤n∧Asc k r.2 r.1:=by
 unfold PySem.W.kas_count
 refine KRun.bind ((jmc kd g (n-1) 1 (Nat.le_refl _) (by omega)).mono fun m hzz=>?_)
 obtain⟨m1,m2,m3,m4⟩:=hzz
 have as:Asc k p m:=m3
 by_cases e:m=n
 ·rw[if_pos (by rw[beq_iff_eq];exact e)]
  exact⟨g,by dsimp only;omega,by dsimp only;omega,as⟩
 ·rw[if_neg (by rw[beq_iff_eq];exact e)]
  by_cases hm:m > 1
  ·rw[if_pos hm]
   refine⟨⟨g.lt (by omega),g.lt (by omega),g.ne (by omega) (by omega) (by omega)⟩,?_⟩
   have:=as.lt' (i:=0) (j:=m-1) (by omega) (by omega)
   dsimp only
   rw[show decide (k (p.getD 0 0)<k (p.getD (m-1) 0))=true from decide_eq_true this,if_pos rfl]
   exact⟨g,by dsimp only;omega,by dsimp only;omega,as⟩
  ·rw[if_neg hm]
   have em:m=1:=by omega
   subst em
   have d0:=m4 (by omega)
   unfold PySem.W.kas_descPart
   refine KRun.bind ((jne kd g (n-(1+1)) (1+1) (by omega) (by omega)).mono fun r hzz=>?_)
   obtain⟨r1,r2,r3,r4,r5⟩:=hzz
   rw[if_neg (by omega),r1]
   unfold PySem.W.kas_tail3
   have ds:∀ i,1≤i→i<r.2.1→SK k p i<SK k p (i-1):=fun i i1 i2=>by
    by_cases hi:i=1
    ·subst hi;exact d0
    ·exact r5 i (by omega) i2
   have gr:=jAb g 0 r.2.1
   refine KRun.bind ((jmc kd gr (n-r.2.1) r.2.1 (by omega) (by omega)).mono fun q hzz=>?_)
   obtain⟨q1,q2,q3,q4⟩:=hzz
   refine⟨gr,by dsimp only;omega,by dsimp only;omega,fun i i1 i2=>?_⟩
   dsimp only at i2 ⊢
   by_cases hi:i<r.2.1
   ·rw[jur g (by omega),jur g (by omega),if_pos (by omega),if_pos hi]
    have:=ds (r.2.1-1-(i-1)) (by omega) (by omega)
    rwa [show r.2.1-1-(i-1)-1=r.2.1-1-i by omega] at this
   ·exact q3 i (by omega) i2
theorem jhv(g:GP n p){m:Nat}(hm:m<n)(as:Asc k p m):∀ (f l r:Nat),l≤r→r≤m→r-l≤f→(∀ i,i<l→SK k p i<SK k p m)→(∀ i,r≤i→i<m→SK k p m<SK k p i) →
  KRun (fun i j=>decide (k i<k j)) (PKn n) (PySem.W.kas_place p m f l r) fun q=>q≤m∧(∀ i,i<q→SK k p i<SK k p m)∧∀ i,q≤i→i<m→SK k p m<SK k p i
 | 0,l,r,h1,h2,h3,h4,h5=>⟨by omega,h4,fun i i1 i2=>h5 i (by omega) i2⟩
 | f+1,l,r,h1,h2,h3,h4,h5=>by
  unfold PySem.W.kas_place
  by_cases hlr:l ≥ r
  ·rw[if_pos hlr]
   exact⟨by omega,h4,fun i i1 i2=>h5 i (by omega) i2⟩
  ·rw[if_neg hlr]
   have hmid:(l+r) / 2<r∧l≤(l+r) / 2:=by omega
   refine⟨⟨g.lt hm,g.lt (by omega),g.ne hm (by omega) (by omega)⟩,?_⟩
   dsimp only
   by_cases e:SK k p m<SK k p ((l+r) / 2)
   ·rw[show decide (k (p.getD m 0)<k (p.getD ((l+r) / 2) 0))=true from decide_eq_true e,if_pos rfl]
    refine jhv g hm as f l ((l+r) / 2) (by omega) (by omega) (by omega) h4 fun i i1 i2=>?_
    by_cases hi:i=(l+r) / 2
    ·rw[hi];exact e
    ·have:=as.lt' (i:=(l+r) / 2) (j:=i) (by omega) i2
     omega
   ·rw[show decide (k (p.getD m 0)<k (p.getD ((l+r) / 2) 0))=false from decide_eq_false e,if_neg (by decide)]
    have:=ju2 kd g (i:=m) (j:=(l+r) / 2) hm (by omega) (by omega)
    refine jhv g hm as f ((l+r) / 2+1) r (by omega) (by omega) (by omega) (fun i i1=>?_) h5
    by_cases hi:i=(l+r) / 2
    ·rw[hi];omega
    ·have:=as.lt' (i:=i) (j:=(l+r) / 2) (by omega) (by omega)
     omega
theorem jq9:∀ (f:Nat) (p:Array Nat) (m:Nat),GP n p→m+f=n→Asc k p m→KRun (fun i j=>decide (k i<k j)) (PKn n) (PySem.W.kas_bin f p m) fun q=>GP n q∧Asc k q n
 | 0,p,m,g,h,as=>⟨g,by rwa [show n=m by omega]⟩
 | f+1,p,m,g,h,as=>by
  unfold PySem.W.kas_bin
  refine KRun.bind ((jhv kd g (m:=m) (by omega) as m 0 m (Nat.zero_le _) (Nat.le_refl _) (by omega) (fun i hi=>by omega) (fun i h1 h2=>by omega)).mono fun l hzz=>?_)
  obtain⟨l1,l2,l3⟩:=hzz
  have g':GP n (bubble p m (m-l)):=(bubble_perm p m (m-l)).trans g
  have at':∀ i,SK k (bubble p m (m-l)) i=if i=l then SK k p m else if l<i∧i≤m then SK k p (i-1) else SK k p i:=fun i=>by
   have e:=getElem?_bubble (xs:=p) (src:=m) (by rw[g.sz];omega) (m-l) (by omega) i
   rw[show m-(m-l)=l by omega] at e
   by_cases h1:i=l
   ·rw[if_pos h1] at e ⊢;exact jfc e
   ·rw[if_neg h1] at e ⊢
    by_cases h2:l<i∧i≤m
    ·rw[if_pos h2] at e ⊢;exact jfc e
    ·rw[if_neg h2] at e ⊢;exact jfc e
  refine jq9 f _ (m+1) g' (by omega) fun i i1 i2=>?_
  rw[at',at']
  by_cases h1:i=l
  ·rw[if_pos h1,if_neg (by omega),if_neg (by omega)]
   exact l2 (i-1) (by omega)
  ·rw[if_neg h1]
   by_cases h2:l<i∧i≤m
   ·rw[if_pos h2]
    by_cases h3:i-1=l
    ·rw[if_pos h3,h3];exact l3 l (Nat.le_refl _) (by omega)
    ·rw[if_neg h3,if_pos (by omega)]
     exact as (i-1) (by omega) (by omega)
   ·rw[if_neg h2,if_neg (by omega),if_neg (by omega)]
    exact as i i1 (by omega)
theorem jtq(h1:1≤n):KRun (fun i j=>decide (k i<k j)) (PKn n) (PySem.W.kas_sort n) fun q=>GP n q∧Asc k q n:=by
 unfold PySem.W.kas_sort
 refine KRun.bind ((jra kd (p:=(List.range n).toArray) (Array.Perm.refl _) h1).mono fun r hzz=>?_)
 obtain⟨r1,r2,r3,r4⟩:=hzz
 by_cases h:r.1<n
 ·rw[if_pos h]
  have e:max r.1 1=r.1:=by omega
  rw[e]
  exact jq9 kd _ _ _ r1 (by omega) r4
 ·rw[if_neg h]
  have e:r.1=n:=by omega
  rw[e] at r4
  exact⟨r1,r4⟩
end
open Att
section
variable {prog:Program}{w:World}{A:Around}{E:Value→Shared→Prop}{s:Shared}{L:Addr}{m:Str→Option Value}
theorem jr9{a:Addr}{vs:List Value}{n:Nat}{P:PySem.Fin→Shared→Prop}(ho:s.heap.get? a=some (seqObj "list" vs.toArray n))(h2:vs.length<2)
  (h:∀ (h':Heap) (c:Nat),(∀ b o,b≠a→s.heap.get? b=some o→h'.get? b=some o)→h'.get? a=some (seqObj "list" vs.toArray c)→P (.done (.ret .none)) { s with heap:=h' }) :
  wpAny (model prog w) A (Builtin.«list.sort» ⟨[.ref a],[]⟩) P E s:=by
 rw[list_sort_plain]
 have ha:a<s.heap.objs.size:=Heap.lt_size ho
 have hz:vs.toArray.size≤sizeLine:=by rw[List.size_toArray,sizeLine_eq];omega
 refine wpAny_bind (listItems_at ho rfl ?_)
 refine wpAny_bind (listUpdate_at ho rfl ?_ hz (Nat.zero_le _))
 obtain⟨e1,ho1⟩:∃ e1,(s.heap.update a (Obj.mapSeq fun _=>(#[]:Array Value))).get? a=some (seqObj "list" #[] e1):=⟨_,get?_update_seq ho fun _=>#[]⟩
 refine wpAny_bind (seqEpoch_at ho1 rfl ?_)
 refine wpAny_bind (wpAny_newTuple ?_ (by show vs.length≤_;rw[sizeLine_eq];omega))
 refine wpAny_bind (wpAny_newList ?_ (Nat.zero_le _))
 refine wpAny_holding ?_
 have ho6:(((s.heap.update a (Obj.mapSeq fun _=>(#[]:Array Value))).push (seqObj "tuple" vs.toArray 0)).push (seqObj "list" #[] 0)).get? a=some (seqObj "list" #[] e1) :=
  Heap.get?_push_of_some _ (Heap.get?_push_of_some _ ho1)
 show wpAny (model prog w) A _ P E { s with heap:=((s.heap.update a (Obj.mapSeq fun _=>(#[]:Array Value))).push (seqObj "tuple" vs.toArray 0)).push (seqObj "list" #[] 0) }
 dsimp only
 have h2':vs.toArray.size<2:=by rw[List.size_toArray];exact h2
 rw[if_pos h2',if_pos h2']
 refine wpAny_bind (wpAny_pure ?_)
 rw[StateT.run_pure]
 refine wpAny_bind (wpAny_pure ?_)
 dsimp only
 refine wpAny_bind (seqEpoch_at ho6 rfl ?_)
 have es:(Array.map (fun x:Keyed=>x.2) (vs.toArray.zip vs.toArray))=vs.toArray:=by
  apply Array.toList_inj.mp
  rw[Array.toList_map]
  match vs,h2 with
  | [],_=>simp
  | [v],_=>simp
 refine wpAny_bind (listUpdate_at ho6 rfl ?_ (Nat.zero_le _) ?_)
 ·simp only[bne_self_eq_false,Bool.false_eq_true,if_false]
  refine wpAny_pure ?_
  obtain⟨c,hc⟩:∃ c,((((s.heap.update a (Obj.mapSeq fun _=>(#[]:Array Value))).push (seqObj "tuple" vs.toArray 0)).push (seqObj "list" #[] 0)).update a (Obj.mapSeq fun _=>Array.map (fun x:Keyed=>x.2) (vs.toArray.zip vs.toArray))).get? a=some (seqObj "list" vs.toArray c) :=
   ⟨_,by rw[get?_update_seq ho6,es]⟩
  exact h _ c (fun b o nb q=>by rw[Heap.get?_update_ne _ _ _ _ nb];exact Heap.get?_push_of_some _ (Heap.get?_push_of_some _ (by rw[Heap.get?_update_ne _ _ _ _ nb];exact q))) hc
 ·show (Array.map (fun x:Keyed=>x.2) (vs.toArray.zip vs.toArray)).size≤_
  rw[es]
  omega
end
open Att
inductive RwAt(h:Heap)(v:Value)(q:Int×Int):Prop
 | mk (ad:Addr) (its:Array Value) (t u:Tok) (rest:List Value) (e:v=.ref ad) (h1:IsTup h ad its) (h2:its.toList=.int q.1 t::.int q.2 u::rest)
noncomputable def rk(q:Int×Int):Int:=q.1*1000+q.2
noncomputable abbrev kk(ks:List (Int×Int))(i:Nat):Int:=rk (ks.getD i (0,0))
section
variable {prog:Program}{w:World}{A:Around}{E:Value→Shared→Prop}{s:Shared}{L:Addr}{m:Str→Option Value}
theorem jy0{fin:Bool}{Q:Bool→Shared→Prop}{p q:Int×Int}{t u t' u':Tok}{r r':List Value}(hp:0≤p.2∧p.2<1000)(hq:0≤q.2∧q.2<1000)(hne:rk p≠rk q)(h:Q (decide (rk p<rk q)) s) :
  PySem.W.KatLex prog w A true fin Q ((Value.int p.1 t::Value.int p.2 u::r).zip (Value.int q.1 t'::Value.int q.2 u'::r')) 0 s:=by
 unfold rk at hne h
 rw[List.zip_cons_cons,List.zip_cons_cons]
 refine PySem.W.kat_cons (wpAny_eqBool_int ?_)
 by_cases e:p.1=q.1
 ·rw[beq_iff_eq.mpr e]
  refine PySem.W.kat_yes (PySem.W.kat_cons (wpAny_eqBool_int ?_))
  have e2:p.2≠q.2:=fun z=>hne (by rw[e,z])
  rw[show (p.2 == q.2)=false by simpa using e2]
  refine PySem.W.kat_no (PySem.W.kat_one _ _ (PyProof.Rows.lt_int ?_))
  rwa [show decide (p.2<q.2)=decide (p.1*1000+p.2<q.1*1000+q.2) from by congr 1;rw[e];apply propext;omega]
 ·rw[show (p.1 == q.1)=false by simpa using e]
  refine PySem.W.kat_no (oneLt_int ?_)
  rwa [show decide (p.1<q.1)=decide (p.1*1000+p.2<q.1*1000+q.2) from by congr 1;apply propext;omega]
theorem jkf{h:Heap}:∀ {vs:List Value} {ks:List (Int×Int)},vs.length=ks.length→(∀ (i:Nat) v q,vs[i]? = some v→ks[i]? = some q→RwAt h v q)→∃ fs,PySem.W.KatTups h vs fs∧fs.length=vs.length∧∀ v∈fs,∃ i t,v=Value.int i t
 | [],[],_,_=>⟨[],PySem.W.KatTups.nil,rfl,fun _ q=>by cases q⟩
 | v::vs,q::ks,hl,hh=>by
  obtain⟨a,its,t,u,rest,rfl,⟨o,e1,e2,n,e3⟩,h2⟩:=hh 0 v q rfl rfl
  obtain⟨fs,q1,q2,q3⟩:=jkf (Nat.succ.inj hl) fun i v q p1 p2=>hh (i+1) v q (by simpa using p1) (by simpa using p2)
  refine⟨.int q.1 t::fs,PySem.W.KatTups.cons e1 e2 e3 ?_ q1,by rw[List.length_cons,List.length_cons,q2],fun v hv=>?_⟩
  ·rw[← Array.getElem?_toList,h2];rfl
  ·rcases List.mem_cons.mp hv with rfl|hv
   ·exact⟨_,_,rfl⟩
   ·exact q3 v hv
 | [],_::_,hl,_=>by cases hl
 | _::_,[],hl,_=>by cases hl
end
section
variable {X:Cx}
noncomputable def okK(ks:List (Int×Int)):Bool:=decide (ks.length<64)&&ks.all (fun q=>decide (0≤q.2)&&decide (q.2<1000))&&decide ((ks.map rk).Nodup)
inductive OkK(ks:List (Int×Int)):Prop
 | mk (h1:ks.length<64) (h2:∀ q∈ks,0≤q.2∧q.2<1000) (h3:∀ i j,i<ks.length→j<ks.length→kk ks i=kk ks j→i=j)
theorem jzj{ks:List (Int×Int)}(h:okK ks=true):OkK ks:=by
 unfold okK at h
 simp only[Bool.and_eq_true,decide_eq_true_eq,List.all_eq_true] at h
 obtain⟨⟨h1,h2⟩,h3⟩:=h
 refine⟨h1,h2,fun i j hi hj e=>?_⟩
 refine (List.getElem_inj (xs:=ks.map rk) (h₀:=by rw[List.length_map];exact hi) (h₁:=by rw[List.length_map];exact hj) h3).mp ?_
 rw[List.getElem_map,List.getElem_map]
 unfold kk at e
 rw[List.getD_eq_getElem?_getD,List.getD_eq_getElem?_getD,List.getElem?_eq_getElem hi,List.getElem?_eq_getElem hj] at e
 exact e
inductive RowV(K:PySem.W.Frag)(H:Hp)(v:V)(q:Int×Int):Prop
 | mk (a:Addr) (r:List V) (e:v=.ref a) (h:SqT K H a (.int q.1::.int q.2::r))
inductive rSortR(K:PySem.W.Frag)(xs:List V)(H:Hp)(Q:VK):Prop
 | mk (p:Addr) (ys:List V) (ks:List (Int×Int)) (h1:xs=[.ref p]) (h2:SqL K H p ys) (h3:ks.length=ys.length) (h4:∀ (i:Nat) v q,ys[i]? = some v→ks[i]? = some q→RowV K H v q) (h5:OkK ks)
  (h6:∀ pp:List Nat,pp.Perm (List.range ys.length)→pp.Pairwise (fun i j=>kk ks i<kk ks j)→∀ l,H l=none→Q (.ref l) (upd H l (.lst (pp.map fun i=>ys.getD i .non))))
theorem map_getD{α:Type}(d:α)(ys:List α):(List.range ys.length).map (fun i=>ys.getD i d)=ys:=by
 apply List.ext_getElem
 ·rw[List.length_map,List.length_range]
 ·intro i h1 h2
  rw[List.getElem_map,List.getElem_range,List.getD_eq_getElem?_getD,List.getElem?_eq_getElem h2];rfl
theorem jrx:CallR X (.type "range") (fun xs H Q=>∃ j:Int,xs=[.int j]∧∀ p,H p=none→Q (.ref p) (upd H p (.rng 0 j))):=by
 intro pins s σ H xs us Q I r h
 obtain⟨j,rfl,q⟩:=h
 obtain⟨u,rfl,rx⟩:=jmi r
 obtain⟨t,rfl⟩:=rx
 exact call_range_1 ⟨.ref s.heap.objs.size,_,I.laid (o:=.rng 0 j) (t':=s.toks+1+1) (fun b o e=>Heap.get?_push_of_some _ e) (Nat.le_refl _) ⟨_,_,_,Heap.get?_push_size _ rfl⟩,rfl,q _ (I.hok.fresh (Nat.le_refl _))⟩
theorem ji4(hc:X.calm=true):CallR X (.type "list") (fun xs H Q=>∃ p,∃ j:Int,xs=[.ref p]∧H p=some (.rng 0 j)∧0≤j∧j≤1000000∧∀ l,H l=none→Q (.ref l) (upd H l (.lst ((List.range j.toNat).map fun i:Nat=>V.int (i:Int))))):=by
 intro pins s σ H xs us Q I r h
 obtain⟨p,j,rfl,hq,j0,j1,q⟩:=h
 obtain⟨u,rfl,rx⟩:=jmi r
 cases rx
 obtain⟨t,u,v,e⟩:=(show ObjOk X.prog X.w H s.heap p (.rng 0 j) from I.hok p _ hq)
 have hs:Builtin.Range.rangeSize 0 j 1=(j.toNat:Nat):=by rw[rangeSize_one];split<;>omega
 refine call_list_range (I.ok.hd hc) e (small_one (by decide) (by decide) (by omega) (by omega)) hs (by omega) fun h' tk acc c k eD ha=>?_
 refine⟨.ref s.heap.objs.size,_,I.laid (o:=.lst ((List.range j.toNat).map fun i:Nat=>V.int (i:Int))) (t':=tk) k (Nat.le_refl _) ⟨?_,acc.toList,c,?_,by simpa using eD⟩,rfl,q _ (I.hok.fresh (Nat.le_refl _))⟩
 ·rw[List.length_map,List.length_range,show sizeLine=16777216 from sizeLine_eq];omega
 ·obtain⟨a1,a2⟩:=ha
  have key:∀ (n:Nat) (vs:List Value) (k:Nat),vs.length=n→(∀ (i:Nat) w,vs[i]? = some w→∃ t,w=.int ((k+i:Nat):Int) t)→Vals ((List.range' k n).map fun i:Nat=>V.int (i:Int)) vs:=by
   intro n
   induction n with
   | zero=>intro vs k h1 _;cases List.eq_nil_of_length_eq_zero h1;exact .nil
   | succ n ih =>
    intro vs k h1 h2
    match vs,h1 with
    | w::vs,h1 =>
     rw[List.range'_succ,List.map_cons]
     refine .cons (h2 0 w rfl) (ih vs (k+1) (Nat.succ.inj h1) fun i w' e=>?_)
     obtain⟨t,ht⟩:=h2 (i+1) w' (by simpa using e)
     exact⟨t,by rw[ht];congr 2;omega⟩
  have:=key j.toNat acc.toList 0 (by rw[Array.length_toList];exact a1) fun i w e=>by
   obtain⟨t,ht⟩:=a2 i w (by rw[← Array.getElem?_toList];exact e)
   exact⟨t,by rw[ht];congr 1;omega⟩
  rwa [← List.range_eq_range'] at this
end
end L2
namespace DL
open PySem PySem.Spec PyProof.Rows L2
noncomputable def keyD:D→Option (Int×Int)
 | .tup (.int a::.int b::_)=>some (a,b)
 | _=>none
noncomputable def jfl:List D→Option (List (Int×Int))
 | []=>some []
 | d::ds=>(keyD d).bind fun q=>(jfl ds).map fun qs=>q::qs
noncomputable def kdD(d:D):Int:=((keyD d).map rk).getD 0
noncomputable def je1(ds:List D):List D:=ds.mergeSort fun a b=>decide (kdD a≤kdD b)
theorem jgj:∀ {ds:List D} {ks:List (Int×Int)},jfl ds=some ks→ks.length=ds.length∧∀ (i:Nat) d q,ds[i]? = some d→ks[i]? = some q→keyD d=some q
 | [],ks,h=>by cases h;exact⟨rfl,fun i d q e _=>by cases e⟩
 | d::ds,ks,h=>by
  unfold jfl at h
  cases f1:keyD d with
  | none=>rw[f1] at h;cases h
  | some q0 =>
   cases f2:jfl ds with
   | none=>rw[f1,f2] at h;cases h
   | some qs =>
    rw[f1,f2] at h
    cases h
    obtain⟨l,p⟩:=jgj f2
    refine⟨by rw[List.length_cons,List.length_cons,l],fun i d' q' e1 e2=>?_⟩
    cases i with
    | zero=>cases e1;cases e2;exact f1
    | succ i=>exact p i d' q' (by simpa using e1) (by simpa using e2)
theorem jdd(ds:List D):(je1 ds).Perm ds:=List.mergeSort_perm _ _
theorem jni(ds:List D):(je1 ds).Pairwise fun a b=>kdD a≤kdD b:=by
 have:=List.pairwise_mergeSort (le:=fun a b:D=>decide (kdD a≤kdD b)) (by simp only[decide_eq_true_eq];intro a b c;omega) (by intro a b;rw[Bool.or_eq_true,decide_eq_true_eq,decide_eq_true_eq];omega) ds
 exact this.imp fun h=>by simpa using h
theorem jts{xs ds:List D}(hk:∀ a∈ds,∀ b∈ds,kdD a=kdD b→a=b)(h:xs.Perm ds)(p:xs.Pairwise fun a b=>kdD a≤kdD b):xs=je1 ds :=
 List.Perm.eq_of_pairwise (fun a b ha hb h1 h2=>hk a (h.mem_iff.mp ha) b ((jdd ds).mem_iff.mp hb) (Int.le_antisymm h1 h2)) p (jni ds) (h.trans (jdd ds).symm)
theorem jsm{ds:List D}{ks:List (Int×Int)}(h:jfl ds=some ks){i:Nat}(hi:i<ds.length):kdD (ds.getD i .non)=kk ks i:=by
 obtain⟨l,p⟩:=jgj h
 have hi':i<ks.length:=by omega
 unfold kdD kk
 rw[List.getD_eq_getElem?_getD,List.getD_eq_getElem?_getD,List.getElem?_eq_getElem hi,List.getElem?_eq_getElem hi',Option.getD_some,Option.getD_some,p i _ _ (List.getElem?_eq_getElem hi) (List.getElem?_eq_getElem hi')]
 rfl
theorem jyv{ds:List D}{ks:List (Int×Int)}(h:jfl ds=some ks)(o:OkK ks):∀ a∈ds,∀ b∈ds,kdD a=kdD b→a=b:=by
 intro a ha b hb e
 obtain⟨o1,o2,o3⟩:=o
 obtain⟨l,p⟩:=jgj h
 obtain⟨i,hi,rfl⟩:=List.getElem_of_mem ha
 obtain⟨j,hj,rfl⟩:=List.getElem_of_mem hb
 have ei:=jsm h hi
 have ej:=jsm h hj
 rw[List.getD_eq_getElem?_getD,List.getElem?_eq_getElem hi,Option.getD_some] at ei
 rw[List.getD_eq_getElem?_getD,List.getElem?_eq_getElem hj,Option.getD_some] at ej
 have:=o3 i j (by omega) (by omega) (by rw[← ei,← ej];exact e)
 subst this;rfl
theorem jqy{ds:List D}{ks:List (Int×Int)}{pp:List Nat}(h:jfl ds=some ks)(o:OkK ks)(pe:pp.Perm (List.range ds.length))(pw:pp.Pairwise fun i j=>kk ks i<kk ks j):(pp.map fun i=>ds.getD i .non)=je1 ds:=by
 have hm:∀ i∈pp,i<ds.length:=fun i hi=>List.mem_range.mp (pe.mem_iff.mp hi)
 refine jts (jyv h o) ?_ ?_
 ·have:=pe.map fun i=>ds.getD i D.non
  rwa [L2.map_getD] at this
 ·rw[List.pairwise_map]
  refine pw.imp_of_mem fun {i j} hi hj e=>?_
  rw[jsm h (hm i hi),jsm h (hm j hj)]
  exact Int.le_of_lt e
section
variable {X:Cx}{O B:List Nat}{E:XK}{a b e:Expr}{es:List Expr}{pos:Pos}{fa fb:DSt→M D}{fl:DSt→M (List D)}
noncomputable def jsk:List D→Option D
 | [.int j]=>if 0≤j∧j≤1000000 then some (.lst (jbl 0 j.toNat)) else none
 | _=>none
theorem jw2{ρ:Rho}{K:PySem.W.Frag}{H:Hp}(n:Nat):Reps ρ K H (jbl 0 n) ((List.range n).map fun i:Nat=>V.int (i:Int)):=by
 have e1:jbl 0 n=((List.range n).map fun i:Nat=>(i:Int)).map .int:=by
  unfold jbl
  rw[List.map_map]
  refine List.map_congr_left fun i _=>?_
  show D.int (0+(i:Int))=D.int (i:Int)
  rw[Int.zero_add]
 rw[e1]
 refine reps_ints.mpr ?_
 rw[List.map_map];rfl
theorem jr3{i:Nat}{x:Str}{pos' p1 p2 p3 p4:Pos}(hN:X.N.Nodup)(hc:X.calm=true)(hGl:Gl X "list")(hml:X.mg "list"=none)(hGr:Gl X "range")(hmr:X.mg "range"=none)(hl:DA X O E [a] fl)(ho:autoParam (O.contains i=false) zau2._auto_1)(hi:autoParam (X.N[i]? = some x) zau2._auto_1)(hx:autoParam (Loc X.env.scope x) zau8._auto_1)
  (hs:autoParam (swapsWith (.Call (.Name "list" p1) [.Call (.Name "range" p2) [a] [] p3] [] p4) (some (.Name x pos')) pos.line X.env=pure false) zau2._auto_1)
  (hf:autoParam (X.fn x=true∨X.env.scope.names.lookup x=some .local) zau0._auto_1)
  (he1:autoParam (starEach [a] X.env=(false,eval a X.env)::starEach [] X.env) zau2._auto_1) (he2:autoParam ((backTo p3 (starEach [] X.env)).any (·.1)=false) zau2._auto_1)
  (he3:autoParam (starEach [.Call (.Name "range" p2) [a] [] p3] X.env=(false,eval (.Call (.Name "range" p2) [a] [] p3) X.env)::starEach [] X.env) zau2._auto_1) (he4:autoParam ((backTo p4 (starEach [] X.env)).any (·.1)=false) zau2._auto_1) :
  DS X O (i::O) B E (.Assign [.Name x pos'] (.Call (.Name "list" p1) [.Call (.Name "range" p2) [a] [] p3] [] p4) pos) (gSet i (fL jsk fl)):=by
 rintro pins s σ H Dn I ⟨ρ,H₀,F,δ,r,R,hg,k⟩
 have ho':i∉O:=fun z=>by rw[List.contains_iff_mem.mpr z] at ho;cases ho
 have hlt:i<δ.length:=by rw[← R.len,I.len];exact (List.getElem?_eq_some_iff.mp hi).1
 refine jnb hN hi hx (jfu (ji4 hc) hGl hml ji3 (jhs (jfu jrx hGr hmr jrv hl (by decide) (by decide) he1 he2) jm7 he3) (by decide) (by decide) he3 he4) hs hf pins s σ H Dn I ?_
 have fin:∀ {ds:List D} {vs:List V} {H2:Hp} {q:Addr},Same H H2→H2 q=none→Reps ρ X.K (hid H2 (fob F σ O)) ds vs→r=.ok (.nx (δ.set i (some (.lst ds))))→Dn.nx (σ.set i (some (.ref q))) (upd H2 q (.lst vs)):=fun {ds vs H2 q} s1 hp r1 er=>by
  subst er
  refine k _ _ ?_ (R.take ho' hlt s1 hp r1)
  have lσ:i<σ.length:=by rw[R.len];exact hlt
  intro b o qq
  obtain⟨q1,q2⟩:=hid_some.mp qq
  have q3:=s1 b o q2
  have hb:b≠q:=jas q3 hp
  refine hid_some.mpr ⟨?_,by rw[jaj hb];exact q3⟩
  cases z:fob F (σ.set i (some (.ref q))) (i::O) b with
  | false=>rfl
  | true =>
   rcases fob_t.mp z with z|⟨j,hj,z⟩
   ·rw[fob_t.mpr (.inl z)] at q1;cases q1
   ·rcases List.mem_cons.mp hj with rfl|hj
    ·rw[List.getElem?_set_self lσ] at z
     cases z
     exact absurd rfl hb
    ·rw[List.getElem?_set_ne (by rintro rfl;exact ho' hj)] at z
     rw[fob_t.mpr (.inr ⟨j,hj,z⟩)] at q1;cases q1
 rcases M.b_inv hg with ⟨d,eD,hg⟩|⟨y,eD,rfl⟩
 ·cases hg
  rcases M.b_inv eD with ⟨xs,e1,hf'⟩|⟨x,e1,z⟩
  ·refine⟨ρ,H₀,F,δ,.ok xs,R,e1,fun us H1 s1 r1=>?_⟩
   obtain⟨d',hd,z⟩:=M.o_inv hf'
   cases z
   unfold jsk at hd
   split at hd
   ·rename_i j
    split at hd
    ·rename_i hj
     cases hd
     obtain⟨v,rfl,q⟩:=jhu r1
     cases rep_int.mp q
     refine⟨j,rfl,fun p hp=>?_⟩
     refine⟨p,j,rfl,jag,hj.1,hj.2,fun l hl'=>?_⟩
     exact fin (s1.trans (jal hp)) hl' (jw2 _) rfl
    ·cases hd
   ·cases hd
  ·cases z
 ·rcases M.b_inv eD with ⟨xs,e1,hf'⟩|⟨x,e1,z⟩
  ·obtain⟨d',hd,z⟩:=M.o_inv hf'
   cases z
  ·cases z
   exact⟨ρ,H₀,F,δ,.error y,R,e1,k⟩
end
section
variable {X:Cx}{O:List Nat}{a b e:Expr}{es:List Expr}{fa fb:DSt→MS D}{fl:DSt→MS (List D)}{pos:Pos}
inductive ListSI(xs:List D)(Ω Ω':Sto)(r:Except XD D):Prop
 | mk (n:Nat) (ds:List D) (h1:xs=[.obj n]) (h2:Ω[n]? = some (.lst ds)) (h4:r=.ok (.lst ds)) (h5:Ω'=Ω)
inductive SortDI(xs:List D)(Ω Ω':Sto)(r:Except XD D):Prop
 | mk (n:Nat) (h1:xs=[.obj n]) (h2:Ω[n]? = some (.dct [])) (h4:r=.ok (.lst [])) (h5:Ω'=Ω)
end
end DL
namespace L2
open PySem PySem.Spec PyProof.Rows
theorem jly(l:Addr)(items:Array Value)(n:Nat)(dct:Option Addr)(sl:Array (Option Value)) :
  Meets (Builtin.«enumerate.__new__» ⟨[.type "enumerate",.ref l],[]⟩) (fun _ R s=>s.heap.get? l=some ⟨.type "tuple",dct,.seq items n,sl⟩ ∧
   ∀ oi,(s.heap.push oi).IsTupleIter s.heap.objs.size l 0→R (.ok (.ret (.ref (s.heap.push oi).objs.size))) { s with heap:=(s.heap.push oi).push { cls:=.type "enumerate",data:=.fields #[.none,.bool false,.ref s.heap.objs.size,rawInt 0,.none,.none] } }) :=
 .of_wp fun prog w A R s h=>by
  obtain⟨hp,g,d,tk,os⟩:=s
  obtain⟨hl,h⟩:=h
  have hsub:=sub_enumerate
  have hT:Heap.IsTuple (Shared.heap ⟨hp,g,d,tk,os⟩) l items:=⟨_,hl,rfl,n,rfl⟩
  have h0:=h { cls:=.type "tuple_iterator",data:=.fields #[.ref l,.int 0 0] } ⟨_,Heap.get?_push_size _ rfl,rfl,rfl⟩
  wp_walk using wpAny_loadPart' hl
  refine wpAny_stack_any fun st=>wpAny_pure ?_
  split
  ·rename_i c _ _ _ _ _
   cases (c == Value.type "enumerate")<;>(wp_walk using wpAny_loadPart' hl,wpAny_pyIter_tuple hT;exact⟨_,rfl,h0⟩)
  ·wp_walk using wpAny_loadPart' hl,wpAny_pyIter_tuple hT;exact⟨_,rfl,h0⟩
theorem jno{prog:Program}{w:World}{A:Around}{E:Value→Shared→Prop}{s:Shared}{l:Addr}{items:Array Value}{Q:Value→Shared→Prop}(hL:s.heap.IsTuple l items)
  (h:∀ h',IsEnum h' (s.heap.objs.size+1) s.heap.objs.size 0 .none→h'.IsTupleIter s.heap.objs.size l 0→(∀ b o,s.heap.get? b=some o→h'.get? b=some o)→Q (.ref (s.heap.objs.size+1)) { s with heap:=h' }) :
  wpAny (model prog w) A (call (.type "enumerate") [.ref l]) Q E s:=by
 obtain⟨⟨c,dct,dt,sl⟩,hl,hc,n,hd⟩:=hL
 cases hc
 cases hd
 refine callType_new PySem.F.called_enumerate (by decide) (PySem.F.typeCall_enumerate_1 _) (PySem.F.newCall_enumerate_1 _) (fun obj=>PySem.F.args_object_init_2 obj _) PySem.F.entry_enumerate_new (jly l items n dct sl) ⟨hl,fun oi w1=>?_⟩
 have hz:(s.heap.push oi).objs.size=s.heap.objs.size+1:=Heap.size_push ..
 have ge:((s.heap.push oi).push { cls:=.type "enumerate",data:=.fields #[.none,.bool false,.ref s.heap.objs.size,rawInt 0,.none,.none] }).get? (s.heap.objs.size+1)=some { cls:=.type "enumerate",data:=.fields #[.none,.bool false,.ref s.heap.objs.size,rawInt 0,.none,.none] }:=by
  rw[← hz];exact Heap.get?_push_size _ rfl
 show _∧_
 rw[hz]
 exact⟨⟨_,ge,rfl⟩,h _ ge (w1.at fun o e=>Heap.get?_push_of_some _ e) fun b o e=>Heap.get?_push_of_some _ (Heap.get?_push_of_some _ e)⟩
theorem jka{prog:Program}{w:World}{A:Around}(hh:A.handled=none)(it l:Addr)(hne:l≠it)(items:Array Value) :
  Draws prog w A it [it,l] items.size (fun i v=>items[i]? = some v) (fun i h=>h.IsTupleIter it l i∧h.IsTuple l items) where
 live:=fun i h st=>let ⟨o,e,_⟩:=st.1;⟨o,e⟩
 frame:=fun _ _ _ st hk=>⟨st.1.at fun o e=>hk it (by simp) o e,st.2.at fun o e=>hk l (by simp) o e⟩
 item:=fun i s Q E hi st hQ=>jil st.1 st.2 (x:=items[i]) (by simp[hi]) fun h' hit' hs'=>hQ _ h' s.toks (by simp[hi]) ⟨hit',st.2.at fun o e=>hs'.extBut l o hne e⟩ hs'
 done:=fun s Q E st hE=>je4 hh st.1 st.2 (by simp) hE
noncomputable def IteT(K:PySem.W.Frag)(l:Addr):It :=
  ⟨fun i H=>∃ xs x,SqV true K H l xs∧xs[i]? = some x,
   fun i H v H'=>∃ T x,H T=none∧v=.ref T∧H'=upd H T (.tup [.int i,x])∧(∀ xs,SqV true K H l xs→xs[i]? = some x),
   fun i H=>∃ xs,SqV true K H l xs∧xs.length=i⟩
theorem joj{P:Program}{w:World}{K:PySem.W.Frag}{es:List Expr}{kk:Nat}{tp:Pos}(l e it:Addr)(D:e≠it) :
  Turn P w K (.Tuple es kk tp) (IteT K l) [e,it] e (fun i h=>(∃ old,IsEnum h e it i old)∧h.IsTupleIter it l i) where
 mem:=by simp
 obj:=fun i h st b hb=>by
  obtain⟨⟨old,q1⟩,o,q2,_,q3⟩:=st
  simp only[List.mem_cons,List.not_mem_nil,or_false] at hb
  rcases hb with rfl|rfl
  ·exact⟨_,q1,fun v e=>nomatch e⟩
  ·exact⟨o,q2,fun v z=>by rw[q3] at z;cases z⟩
 keep:=fun i h h' st k=>by
  obtain⟨⟨old,q1⟩,q2⟩:=st
  exact⟨⟨old,k e (by simp) _ q1⟩,q2.at fun o z=>k it (by simp) o z⟩
 item:=by
  intro X hP hw hK hc i pins s σ H E I hf st hg
  subst hP hw hK
  obtain⟨⟨old,q1⟩,q2⟩:=st
  obtain⟨xs,x,sx,hx⟩:=hg
  obtain⟨ix,rx,cx,_⟩:=I.src sx
  obtain⟨u,hu,ru⟩:=rx.get hx
  have le:=jer I sx (hf e (by simp))
  have li:=jer I sx (hf it (by simp))
  have hlt:i<ix.toArray.size:=by rw[List.size_toArray];exact (List.getElem?_eq_some_iff.mp hu).1
  refine wpAny_pyNext_enum_itemD (jka (prog:=X.prog) (w:=X.w) (A:=X.A.in1) (I.ok.hd hc) it l li ix.toArray) q1 ⟨q2,cx⟩ hlt D (by simp only[List.mem_cons,List.not_mem_nil,or_false,not_or];exact⟨D,le.symm⟩) fun y h' tk py b1 b2 b3 b4 b5=>⟨_,rfl,?_⟩
  have ey:y=u:=by
   have:ix[i]? = some y:=by simpa using py
   rw[hu] at this;exact (Option.some.inj this).symm
  subst ey
  have hfr:H s.heap.objs.size=none:=I.hok.fresh (Nat.le_refl _)
  have hno:s.heap.get? s.heap.objs.size=none:=Heap.get?_none_of_le (Nat.le_refl _)
  have Te:s.heap.objs.size≠e:=Nat.ne_of_gt (Heap.lt_size q1)
  have Ti:s.heap.objs.size≠it:=by obtain⟨o,q,_⟩:=q2;exact Nat.ne_of_gt (Heap.lt_size q)
  refine wpAny_letOwnedTupleGo_enum b1 fun h2 e2 s2=>?_
  have up2:∀ b o,b≠e→h'.get? b=some o→h2.get? b=some o:=fun b o hb z=>s2.extBut _ _ hb z
  have keep2:∀ b o,b∉[e,it]→s.heap.get? b=some o→h2.get? b=some o:=fun b o hb z=>by
   simp only[List.mem_cons,List.not_mem_nil,or_false,not_or] at hb
   exact up2 b o hb.1 (b5 b o hb.1 hb.2 z)
  have tu:IsTup h2 s.heap.objs.size [.int i tk,y].toArray:=⟨_,up2 _ _ Te b3,rfl,0,rfl⟩
  have i2:h2.IsTupleIter it l (i+1):=b2.1.at fun o z=>up2 _ o D.symm z
  have I2:Inv X pins σ (upd H s.heap.objs.size (.tup [.int i,x])) { s with heap:=h2,toks:=tk+1 }:=I.spun hf keep2 (fun b hb=>by
   simp only[List.mem_cons,List.not_mem_nil,or_false] at hb
   rcases hb with rfl|rfl
   ·exact⟨_,e2⟩
   ·obtain⟨o,q,_⟩:=i2;exact⟨o,q⟩) hno hfr (.cons ⟨_,rfl⟩ (.cons ru .nil)) (by show 2≤sizeLine;decide) tu
  refine⟨.ref s.heap.objs.size,_,I2,rfl,⟨_,x,hfr,rfl,rfl,fun xs' h=>by rw[I.src_inj h sx];exact hx⟩,⟨⟨y,by have:=e2;simpa using this⟩,i2⟩,fun b hb=>?_⟩
  have:b≠s.heap.objs.size:=fun q=>by
   subst q
   simp only[List.mem_cons,List.not_mem_nil,or_false] at hb
   rcases hb with q|q
   ·exact Te q
   ·exact Ti q
  rw[jaj this]
  exact (hf b hb).1
 done:=by
  intro X hP hw hK hc i pins s σ H E I hf st hg
  subst hP hw hK
  obtain⟨⟨old,q1⟩,q2⟩:=st
  obtain⟨xs,sx,hend⟩:=hg
  obtain⟨ix,rx,cx,_⟩:=I.src sx
  have lx:=rx.length
  have li:=jer I sx (hf it (by simp))
  have ei:ix.toArray.size=i:=by rw[List.size_toArray];omega
  refine wpAny_pyNext_enum_endD (jka (prog:=X.prog) (w:=X.w) (A:=X.A.in1) (I.ok.hd hc) it l li ix.toArray) q1 ⟨by rw[ei];exact q2,cx⟩ fun h' k=>⟨rfl,I.spun0 (t':=s.toks) hf fun b o hb z=>?_⟩
  simp only[List.mem_cons,List.not_mem_nil,or_false,not_or] at hb
  exact k b o hb.2 z
 self:=fun _ _ _ _ _ st h=>by obtain⟨⟨old,q1⟩,_⟩:=st;exact wpAny_pyIter_enum q1 h
section
variable {X:Cx}
noncomputable def jyp(K:PySem.W.Frag)(ta:TA):TI:=fun σ H R=>ta σ H fun vs H1=>∃ l xs,vs=[.ref l]∧SqV true K H1 l xs∧R (IteT K l) H1
theorem jth{a:Expr}{ta:TA}{es:List Expr}{kk:Nat}{tp p pos:Pos}(hg:Gl X "enumerate")(hm:X.mg "enumerate"=none)(ha:PA X [a] ta)(hs:autoParam (starEach [a] X.env=[(false,eval a X.env)]) zau2._auto_1) :
  PI X (.Tuple es kk tp) (.Call (.Name "enumerate" p) [a] [] pos) (jyp X.K ta):=by
 intro pins s σ H R I h
 refine Call_ (jhf I hg hm boot_enumerate (PyProof.Rows.callWith_type1 (thn (ha pos pins s σ H _ I h) fun us s1 hzz=>?_) hs rfl))
 obtain⟨vs,H1,I1,r1,q1⟩:=hzz
 obtain⟨l,xs,e,sx,q⟩:=q1
 subst e
 obtain⟨u,rfl,e1⟩:=r1.one
 cases e1
 obtain⟨ix,rx,cx,_⟩:=I1.src sx
 refine jno cx fun h' b1 b2 b4=>wpAny_pyIter_enum b1 ?_
 refine⟨s1.heap.objs.size+1,[s1.heap.objs.size+1,s1.heap.objs.size],_,_,H1,rfl,I1.kept (t':=s1.toks) fun c o e=>b4 c o e,joj l _ _ (show (s1.heap.objs.size+1:Nat)≠s1.heap.objs.size by omega),⟨⟨_,b1⟩,b2⟩,fun b hb=>?_,q⟩
 have hb':s1.heap.objs.size≤b:=by
  simp only[List.mem_cons,List.not_mem_nil,or_false] at hb
  rcases hb with q|q<;>(rw[q];first|exact Nat.le_refl _|exact Nat.le_add_right _ _)
 exact I1.fpOk hb' (I1.hok.fresh hb')
end
end L2
namespace DL
open PySem PySem.Spec L2
noncomputable def jfh:List D→Option (List D)
 | [.tup xs]=>some (jdv 0 xs)
 | _=>none
theorem jvv{ρ:Rho}{K:PySem.W.Frag}{ds:List D}{Hv:Hp}{l:Addr}{xs:List V}(h:SqV true K Hv l xs)(hr:Reps ρ K Hv ds xs):ItD ρ K (IteT K l) (jdv 0 ds) Hv:=by
 intro H' G' i f hG
 have h':SqV true K H' l xs:=jir (f.trans jan) h
 refine⟨fun hi=>?_,fun hi=>⟨xs,h',by rw[hr.length,hi,jg6]⟩⟩
 obtain⟨d,q1,q2⟩:=jg5 (List.getElem?_eq_getElem hi)
 obtain⟨v,hv,rv⟩:=hr.get q1
 refine⟨⟨xs,v,h',hv⟩,fun x H2 y=>?_⟩
 obtain⟨T,x1,hT,rfl,rfl,y1⟩:=y
 have e1:=y1 xs h'
 rw[hv] at e1;cases e1
 refine⟨jal hT,_,List.getElem?_eq_getElem hi,?_⟩
 rw[q2,Int.zero_add]
 exact jbc hT (hG T hT) (Reps.cons (rep_int.mpr rfl) (Reps.cons (rv.mono f) Reps.nil))
section
variable {X:Cx}{O:List Nat}{E:XK}{a:Expr}{fl:DSt→M (List D)}{p pos:Pos}
theorem jr2{ts:List Expr}{kk:Nat}{tp:Pos}(hg:Gl X "enumerate")(hm:X.mg "enumerate"=none)(ha:DA X O E [a] fl)(hs:autoParam (starEach [a] X.env=[(false,eval a X.env)]) zau2._auto_1) :
  DI X O E (.Tuple ts kk tp) (.Call (.Name "enumerate" p) [a] [] pos) (jha jfh fl):=by
 rintro pins s σ H R I ⟨ρ,H₀,F,δ,r,RS0,hf,k⟩
 refine jth hg hm ha hs pins s σ H R I ?_
 rcases M.b_inv hf with ⟨d,e1,hf⟩|⟨y,e1,rfl⟩
 ·refine⟨ρ,H₀,F,δ,.ok d,RS0,e1,fun vs H1 s1 r1=>?_⟩
  obtain⟨ds,hd,rfl⟩:=M.o_inv hf
  unfold jfh at hd
  split at hd
  ·rename_i xs
   cases hd
   obtain⟨v,rfl,q1⟩:=jhu r1
   obtain⟨l,us,rfl,z1,z2⟩:=rep_tup.mp q1
   exact⟨l,us,rfl,jcy jan z1,k _ H1 s1 (jvv z1 z2)⟩
  ·cases hd
 ·exact⟨ρ,H₀,F,δ,.error y,RS0,e1,k⟩
end
end DL
namespace L2
open PySem PySem.Spec PyProof.Rows
open Att
inductive RawD(h:Heap)(d:Addr)(es:Array DictEntry)(ep:Nat):Prop
 | mk (o:Obj) (g:h.get? d=some o) (x:o.ExactDict) (y:o.data=.dict es ep)
section
variable {prog:Program}{w:World}{A:Around}{E:Value→Shared→Prop}{s:Shared}{d it:Addr}{es:Array DictEntry}{ep i:Nat}{L:Addr}{m:Str→Option Value}
theorem RawD.type(r:RawD s.heap d es ep):s.TypeIs (.ref d) "dict":=let ⟨o,g,x,_⟩:=r;⟨o,g,x.1⟩
theorem RawD.lt{h:Heap}(r:RawD h d es ep):d<h.objs.size:=let ⟨_,g,_,_⟩:=r;Heap.lt_size g
theorem RawD.at{h h':Heap}(r:RawD h d es ep)(k:∀ o,h.get? d=some o→h'.get? d=some o):RawD h' d es ep:=let ⟨o,g,x,y⟩:=r;⟨o,k o g,x,y⟩
theorem jto{Q:Value→Shared→Prop}(hs:(d == sysModules)=false)(r:RawD s.heap d es ep)
  (hQ:Q (.ref s.heap.objs.size) { s with heap:=s.heap.push { cls:=.type "dict_keyiterator",data:=.fields #[.ref d,.int 0 0,.int es.size 0,.int ep 0] } }):wpAny (model prog w) A (pyIter (.ref d)) Q E s:=by
 have ty:=r.type
 obtain⟨o,g,x,y⟩:=r
 refine wpAny_pyIter_slot ty PySem.F.slot_dict_iter (wpAny_call_entry PySem.F.slot_dict_iter ty PySem.F.entry_dict_iter ?_ (PySem.F.args_dict_iter_1 _))
 unfold Builtin.«dict.__iter__»
 refine wpAny_bind ?_
 unfold Builtin.Dict.dictSlotNone
 refine wpAny_bind (wpAny_notOrdered_dict ty (show wpAny _ _ (pure (Value.ref d)) _ _ s from wpAny_pure ?_))
 show wpAny _ _ (Builtin.Dict.showsAll d >>= _) _ _ s
 unfold Builtin.Dict.showsAll
 rw[if_neg (by rw[hs];exact Bool.false_ne_true)]
 refine wpAny_bind (wpAny_pure (wpAny_bind (wpAny_dictEntries g y (wpAny_bind (wpAny_dictEpoch g y ?_)))))
 refine wpAny_bind (wpAny_newObj_type (wpAny_pure ⟨_,rfl,"dict_keyiterator",_,⟨_,Heap.get?_push_size _ rfl,rfl⟩,PySem.F.slot_dict_keyiterator_next.lookup,?_⟩))
 simpa[rawInt] using hQ
theorem jtn{Q:Option Value→Shared→Prop}{R:Value→Shared→Prop}(r:RawD s.heap d es ep)(hit:s.heap.IsKeyIter it d i es.size ep)(hi:i<es.size)
  (hQ:∀ h',h'.IsKeyIter it d (i+1) es.size ep→Heap.SameBut it s.heap h'→Q (some es[i].key) { s with heap:=h' }):wpAny (model prog w) A (pyNext (.ref it)) Q E s:=by
 have ti:=hit.typeIs
 obtain⟨o,ho,hc,hd⟩:=id hit
 obtain⟨od,g,x,y⟩:=r
 unfold pyNext
 refine wpAny_bind (wpAny_attempt (wpAny_callSpecial?_slot (name:=Str.ofString "__next__") ti PySem.F.slot_dict_keyiterator_next (wpAny_call_entry PySem.F.slot_dict_keyiterator_next ti PySem.F.entry_dict_keyiterator_next ?_ (PySem.F.args_dict_keyiterator_next_1 _))))
 refine wpAny_bind (wpAny_pure (wpAny_bind (wpAny_bind ?_)))
 first|refine wpAny_bind (wpAny_typeNameOfWhole_keyiter ti (wpAny_pure (wpAny_bind (wpAny_fieldsOf ho hd ?_))))|refine wpAny_bind (wpAny_typeNameOf_keyiter ti (wpAny_pure (wpAny_bind (wpAny_fieldsOf ho hd ?_))))
 simp only[show Builtin.Dict_items.ownsTuple "dict_keyiterator"=false by decide,Bool.false_eq_true,if_false]
 show wpAny _ _ (if (Value.ref d == Value.none)=true then _ else _) _ _ s
 rw[if_neg (show ¬ ((Value.ref d == Value.none)=true) from Bool.false_ne_true)]
 refine wpAny_bind (wpAny_pure (wpAny_bind (wpAny_dictEntries g y ?_)))
 rw[if_neg (by simp)]
 refine wpAny_bind (wpAny_pure (wpAny_bind (wpAny_dictEpoch g y ?_)))
 rw[if_neg (by simp)]
 refine wpAny_pure ?_
 simp only[show ¬ ((i:Int)<0) from by omega,if_false,Int.toNat_natCast,Array.getElem?_eq_getElem hi]
 refine wpAny_bind ?_
 first|refine wpAny_bind (wpAny_typeNameOfWhole_keyiter ti (wpAny_pure (wpAny_bind (wpAny_isOneOf_keyiter ti ?_))))|refine wpAny_bind (wpAny_typeNameOf_keyiter ti (wpAny_pure (wpAny_bind (wpAny_isOneOf_keyiter ti ?_))))
 show wpAny _ _ (setField (.ref it) 1 (rawInt ((i:Int)+1)) >>= _) _ _ s
 refine wpAny_bind (wpAny_setField ho hd (by simp) ?_)
 have hit':(s.heap.update it (Obj.mapFields (·.setIfInBounds 1 (rawInt ((i:Int)+1))))).IsKeyIter it d (i+1) es.size ep:=by
  refine⟨_,Heap.get?_update_self _ ho (Obj.isFreed_of_fields (Obj.data_mapFields hd _)),(Obj.cls_mapFields ..).trans hc,?_⟩
  rw[Obj.data_mapFields hd];simp[rawInt]
 refine wpAny_bind (wpAny_holding (wpAny_bind (wpAny_isOneOf_keyiter (s:={ s with heap:=s.heap.update it (Obj.mapFields (·.setIfInBounds 1 (rawInt ((i:Int)+1)))) }) hit'.typeIs ?_)))
 show wpAny _ _ (pure es[i].key) _ _ _
 exact wpAny_pure (wpAny_pure ⟨_,rfl,wpAny_pure (hQ _ hit' (Heap.SameBut.update ..))⟩)
theorem jw0{Q:Option Value→Shared→Prop}(hh:A.handled=none)(r:RawD s.heap d es ep)(hit:s.heap.IsKeyIter it d es.size es.size ep)(hQ:∀ h',Heap.ExtBut it s.heap h'→Q none { s with heap:=h' }):wpAny (model prog w) A (pyNext (.ref it)) Q E s:=by
 have ti:=hit.typeIs
 obtain⟨o,ho,hc,hd⟩:=id hit
 obtain⟨od,g,x,y⟩:=r
 unfold pyNext
 refine wpAny_bind (wpAny_attempt (wpAny_callSpecial?_slot (name:=Str.ofString "__next__") ti PySem.F.slot_dict_keyiterator_next (wpAny_call_entry PySem.F.slot_dict_keyiterator_next ti PySem.F.entry_dict_keyiterator_next ?_ (PySem.F.args_dict_keyiterator_next_1 _))))
 refine wpAny_bind (wpAny_pure (wpAny_bind (wpAny_bind ?_)))
 first|refine wpAny_bind (wpAny_typeNameOfWhole_keyiter ti (wpAny_pure (wpAny_bind (wpAny_fieldsOf ho hd ?_))))|refine wpAny_bind (wpAny_typeNameOf_keyiter ti (wpAny_pure (wpAny_bind (wpAny_fieldsOf ho hd ?_))))
 simp only[show Builtin.Dict_items.ownsTuple "dict_keyiterator"=false by decide,Bool.false_eq_true,if_false]
 show wpAny _ _ (if (Value.ref d == Value.none)=true then _ else _) _ _ s
 rw[if_neg (show ¬ ((Value.ref d == Value.none)=true) from Bool.false_ne_true)]
 refine wpAny_bind (wpAny_pure (wpAny_bind (wpAny_dictEntries g y ?_)))
 rw[if_neg (by simp)]
 refine wpAny_bind (wpAny_pure (wpAny_bind (wpAny_dictEpoch g y ?_)))
 rw[if_neg (by simp)]
 refine wpAny_pure ?_
 simp only[show ¬ (((es.size:Nat):Int)<0) from by omega,if_false,Int.toNat_natCast,Array.getElem?_eq_none (Nat.le_refl es.size)]
 refine wpAny_bind ?_
 first|refine wpAny_bind (wpAny_typeNameOfWhole_keyiter ti (wpAny_pure ?_))|refine wpAny_bind (wpAny_typeNameOf_keyiter ti (wpAny_pure ?_))
 show wpAny _ _ (setField (.ref it) 0 .none >>= _) _ _ s
 refine wpAny_bind (wpAny_setField ho hd (by simp) ?_)
 show wpAny _ _ (newExc (.type "StopIteration") [] >>= _) _ _ _
 refine wpAny_bind ?_
 simp only[newExc,newTuple]
 refine wpAny_bind (wpAny_newObj_type (wpAny_bind (m:=firstArgMember _ _) (wpAny_of_eq (a:=Value.none) (by first|rfl|(simp only[firstArgMember];rfl)) (wpAny_newObj_type ?_ (by size_fits)))) (by size_fits))
 simp only[raiseNew]
 refine wpAny_bind (wpAny_handled ?_)
 rw[show A.in1.handled=none from hh]
 refine wpAny_bind (wpAny_pure (wpAny_throw ?_))
 exact wpAny_bind (wpAny_isInstance (T:="StopIteration") (b:=true) ⟨_,Heap.get?_push_size _ rfl,rfl⟩ isSubtype_stop (wpAny_pure (hQ _ (((Heap.SameBut.update ..).extBut.push _).push _))))
noncomputable abbrev jxq(es:Array DictEntry)(i:Nat)(v:Value):Prop:=∃ e,es[i]? = some e∧v=e.key
theorem jq6(hh:A.handled=none)(I d:Addr)(hne:d≠I):Walks prog w A I [I,d] [I] es.size (jxq es) (fun i h=>h.IsKeyIter I d i es.size ep∧RawD h d es ep) where
 sub:=fun b hb=>by simp at hb;simp[hb]
 frame:=fun _ _ _ st hk=>⟨st.1.at fun o e=>hk I (by simp) o e,st.2.at fun o e=>hk d (by simp) o e⟩
 item:=fun i s Q E hi st hQ=>jtn (R:=fun _ _=>True) st.2 st.1 hi fun h' hit' hs'=>hQ _ h' s.toks ⟨es[i],by simp[hi],rfl⟩ ⟨hit',st.2.at fun o e=>hs'.extBut d o hne e⟩ fun b o hb e=>hs'.extBut b o (fun h=>hb (by simp[h])) e
 done:=fun s Q E st hQ=>jw0 hh st.2 st.1 fun h' he'=>hQ h' s.toks fun b o hb e=>he' b o (fun h=>hb (by simp[h])) e
 self:=fun _ _ _ _ st hQ=>wpAny_pyIter_keyiter st.1 hQ
theorem jvy(lo:(d == sysModules)=false):PySem.W.KdlSrc prog w "dict" d d es.size (jxq es) (fun h=>RawD h d es ep) where
 type:=fun _ r=>r.type
 there:=fun _ r=>⟨r.lt,r.lt⟩
 keep:=fun _ _ r hk=>r.at fun o e=>hk d (.inl rfl) o e
 notList:=by decide
 notTuple:=by decide
 hint:=fun _ _ _ _ r hq=>PySem.W.kdl_hint_dict r.type hq
 iter:=fun _ _ hh r=>⟨_,_,(fun _ _ hq=>jto lo r hq),jq6 hh _ d (Nat.ne_of_lt r.lt),⟨⟨_,Heap.get?_push_size _ rfl,rfl,rfl⟩,r.at fun o e=>Heap.get?_push_of_some _ e⟩⟩
theorem jtr{D:Addr}{c0:Nat}{vs:List Value}{ks:List (Int×Int)}{n:Nat}{Q:Shared→Prop}(ho:s.heap.get? D=some (seqObj "list" vs.toArray c0))(hDL:D≠L)(hn:vs.length=n)(hks:ks.length=n)(h2:2≤n)(h64:n<64)(ht:∀ (i:Nat) v q,vs[i]? = some v→ks[i]? = some q→RwAt s.heap v q)
  (hb:∀ q∈ks,0≤q.2∧q.2<1000) (kd:∀ i j,i<n→j<n→kk ks i=kk ks j→i=j) (hL:s.heap.Ns L m)
  (fin:∀ (h':Heap) (c:Nat) (pp:List Nat),pp.Perm (List.range n)→pp.Pairwise (fun i j=>kk ks i<kk ks j)→h'.Ns L m→(∀ b o,b≠L→b≠D→s.heap.get? b=some o→h'.get? b=some o)→h'.get? D=some (seqObj "list" (pp.map fun i=>vs.getD i Value.none).toArray c)→Q { s with heap:=h' }) :
  wpAny (model prog w) A (call (.builtin "list.sort") [.ref D]) (fun _ s'=>Q s') E s:=by
 refine PySem.W.kat_lsort (h₀:=jim s.heap) (L:=L) (m:=m) (vs:=vs) (its:=vs.toArray) (n:=c0) (frN hL) (jzi hDL ho) updN (by simp) (by omega) (by omega) fun e1 h' F' N'=>?_
 obtain⟨aD,kp⟩:=ofN N'
 have ht':∀ (i:Nat) v q,vs[i]? = some v→ks[i]? = some q→RwAt h' v q:=fun i v t p1 p2=>by
  obtain⟨a,its,t,u,rest,e,⟨o,q1,q2,k,q3⟩,q4⟩:=ht i v t p1 p2
  refine⟨a,its,t,u,rest,e,⟨o,kp a o (fun zz=>?_) (fun zz=>?_) q1,q2,k,q3⟩,q4⟩
  ·obtain⟨o',es,ep,e',d',_⟩:=hL
   rw[zz,e'] at q1
   cases q1
   rw[q3] at d';cases d'
  ·rw[zz,ho] at q1
   cases q1
   exact absurd (Value.type.inj q2) (by decide)
 obtain⟨fs,k1,k2,k3⟩:=jkf (by rw[hn,hks]) ht'
 refine PySem.W.kat_kind (T:=.type "int") k1 (by rw[k2];omega) (fun v hv=>?_) rfl ?_
 ·obtain⟨i,t,rfl⟩:=k3 v hv
  exact PySem.W.Looks.of_pure rfl
 ·rw[hn]
  have g:∀ i,i<n→RwAt h' (vs.getD i Value.none) (ks.getD i (0,0))∧(0≤(ks.getD i (0,0)).2∧(ks.getD i (0,0)).2<1000):=fun i hi=>by
   rw[List.getD_eq_getElem?_getD,List.getD_eq_getElem?_getD,List.getElem?_eq_getElem (by omega),List.getElem?_eq_getElem (by omega)]
   exact⟨ht' i _ _ (List.getElem?_eq_getElem (by omega)) (List.getElem?_eq_getElem (by omega)),hb _ (List.getElem_mem _)⟩
  refine KRun.wp (fun i j C hP q=>?_) (jtq (k:=kk ks) kd (by omega)) fun p hp=>?_
  ·obtain⟨hi,hj,hij⟩:=hP
   obtain⟨⟨a,ia,ta,ua,ra,ea,⟨oa,a1,a2,ka,a3⟩,a4⟩,a5⟩:=g i hi
   obtain⟨⟨b,ib,tb,ub,rb,eb,⟨ob,b1,b2,kb,b3⟩,b4⟩,b5⟩:=g j hj
   show wpAny _ _ (keyLt' (tuples' true) (vs.getD i Value.none) (vs.getD j Value.none)) C _ _
   rw[ea,eb]
   refine PySem.W.kat_lt a1 a3 b1 b3 ?_
   rw[a4,b4]
   exact jy0 a5 b5 (fun z=>hij (kd i j hi hj z)) q
  ·obtain⟨gp,as⟩:=hp
   have pw:p.toList.Pairwise fun i j=>kk ks i<kk ks j:=by
    rw[List.pairwise_iff_getElem]
    intro i j hi hj hij
    rw[Array.length_toList] at hi hj
    have:=as.lt' (i:=i) (j:=j) hij (by rw[← gp.sz];exact hj)
    unfold SK at this
    rw[Array.getD_eq_getD_getElem?,Array.getD_eq_getD_getElem?,getElem?_pos p i hi,getElem?_pos p j hj] at this
    simpa using this
   refine PySem.W.KasFin.intro (frN F'.ns) (jzi hDL aD) updN fun h4 c4 F4 N4=>?_
   obtain⟨d1,d2⟩:=ofN N4
   exact fin h4 c4 p.toList gp.lst pw F4.ns (fun b o n1 n2 q=>d2 b o n1 n2 (kp b o n1 n2 q)) d1
theorem joa{ks:List (Int×Int)}{Q:Value→Shared→Prop}(hh:A.handled=none)(lo:(d == sysModules)=false)(r:RawD s.heap d es ep)(hks:ks.length=es.size)(h64:es.size<64)(ht:∀ (i:Nat) e q,es[i]? = some e→ks[i]? = some q→RwAt s.heap e.key q)
  (hb:∀ q∈ks,0≤q.2∧q.2<1000) (kd:∀ i j,i<es.size→j<es.size→kk ks i=kk ks j→i=j) (hL:s.heap.Ns L m)
  (fin:∀ (D:Addr) (h':Heap) (c tk:Nat) (pp:List Nat),pp.Perm (List.range es.size)→pp.Pairwise (fun i j=>kk ks i<kk ks j)→Lk L m s.heap h'→s.heap.get? D=none→h'.get? D=some (seqObj "list" (pp.map fun i=>(es.toList.map (·.key)).getD i Value.none).toArray c)→Q (.ref D) { s with heap:=h',toks:=tk }) :
  wpAny (model prog w) A (call (.builtin "sorted") [.ref d]) Q E s:=by
 have hz:es.size≤sizeLine:=by rw[sizeLine_eq];omega
 refine Calls.call_function_entry kind_sorted plain_sorted entry_sorted (args_sorted1 _) ?_
 unfold Builtin.«sorted»
 refine wpAny_bind (m:=checkCount "sorted" 1 1 _) (wpAny_pure (wpAny_bind (PySem.W.kdu_collect (A:=A.in1) (jvy (es:=es) (ep:=ep) lo) hh r hz fun h' tk acc hk hacc=>?_)))
 have hl:acc.toList.length=es.size:=by rw[Array.length_toList];exact hacc.1
 have ha:acc.toList=es.toList.map (·.key):=by
  refine List.ext_getElem (by rw[hl,List.length_map,Array.length_toList]) fun i h1 h2=>?_
  obtain⟨e,e1,e2⟩:=hacc.2 i acc.toList[i] (by rw[← Array.getElem?_toList];exact List.getElem?_eq_getElem h1)
  rw[e2,List.getElem_map]
  congr 1
  rw[← Array.getElem?_toList,List.getElem?_eq_getElem (by rw[List.length_map] at h2;exact h2)] at e1
  exact (Option.some.inj e1).symm
 refine wpAny_bind (wpAny_newList ?_ (by rw[hl];exact hz))
 have hoL:(h'.push (seqObj "list" acc.toList.toArray 0)).get? h'.objs.size=some (seqObj "list" acc.toList.toArray 0):=Heap.get?_push_size _ rfl
 have big:s.heap.get? h'.objs.size=none:=by
  cases e:s.heap.get? h'.objs.size with
  | none=>rfl
  | some o=>exact absurd (Heap.lt_size (hk _ _ e)) (Nat.lt_irrefl _)
 have kp:∀ b o,s.heap.get? b=some o→(h'.push (seqObj "list" acc.toList.toArray 0)).get? b=some o:=fun b o q=>Heap.get?_push_of_some _ (hk b o q)
 have nsL:(h'.push (seqObj "list" acc.toList.toArray 0)).Ns L m:=by
  obtain⟨o,es,ep,e,d,rr⟩:=hL
  exact⟨o,es,ep,kp _ _ e,d,rr⟩
 have nL:h'.objs.size≠L:=fun z=>by
  obtain⟨o,es,ep,e,d,rr⟩:=hL
  rw[← z,big] at e;cases e
 by_cases h2:2≤es.size
 ·refine wpAny_bind (wpAny_holding (wpAny_mono (jtr (s:={ s with heap:=h'.push (seqObj "list" acc.toList.toArray 0),toks:=tk }) (Q:=fun s'=>Q (.ref h'.objs.size) s') (ks:=ks) (n:=es.size) hoL nL hl hks h2 h64 (fun i v q p1 p2=>?_) hb kd nsL fun h4 c4 pp pe pw ns k4 e4=>?_) (fun _ s' x=>wpAny_pure ⟨_,rfl,x⟩) fun _ _ e=>e))
  ·obtain⟨e,e1,e2⟩:=hacc.2 i v (by rw[← Array.getElem?_toList];exact p1)
   obtain⟨a,its,t,u,rest,e',⟨o,q1,q2,k,q3⟩,q4⟩:=ht i e q e1 p2
   exact⟨a,its,t,u,rest,e2.trans e',⟨o,kp a o q1,q2,k,q3⟩,q4⟩
  ·rw[ha] at e4
   exact fin h'.objs.size h4 c4 tk pp pe pw ⟨fun b o n q=>k4 b o n (fun z=>by rw[z,big] at q;cases q) (kp b o q),ns⟩ big e4
 ·refine wpAny_bind (wpAny_holding (wpAny_call_entry slot_list_sort ⟨_,hoL,rfl⟩ entry_list_sort (jr9 (s:={ s with heap:=h'.push (seqObj "list" acc.toList.toArray 0),toks:=tk }) hoL (by omega) fun h2' c k e=>⟨_,rfl,?_⟩) (args_list_sort _)))
  refine wpAny_pure ⟨_,rfl,?_⟩
  have k':∀ b o,s.heap.get? b=some o→h2'.get? b=some o:=fun b o q=>k b o (fun z=>by rw[z,big] at q;cases q) (kp b o q)
  refine fin _ h2' c tk (List.range es.size) (.refl _) ?_ ⟨fun b o _ q=>k' b o q,?_⟩ big ?_
  ·rcases Nat.lt_or_ge 0 es.size with z|z
   ·rw[show es.size=1 by omega];exact List.pairwise_singleton _ _
   ·rw[show es.size=0 by omega];exact List.Pairwise.nil
  ·obtain⟨o,es,ep,e,d,rr⟩:=hL
   exact⟨o,es,ep,k' _ _ e,d,rr⟩
  ·rw[ha] at e
   have:=map_getD Value.none (es.toList.map (·.key))
   rw[List.length_map,Array.length_toList] at this
   rw[this];exact e
end
noncomputable abbrev ofK(q:Int×Int):List Key:=[Sum.inl q.1,Sum.inl q.2]
inductive rSortD(xs:List V)(H:Hp)(Q:VK):Prop
 | mk (p:Addr) (kvs:List (List Key×V)) (ks:List (Int×Int)) (h1:xs=[.ref p]) (h2:H p=some (.dT kvs)) (h3:kvs.map (·.1)=ks.map ofK) (h4:OkK ks)
  (h5:∀ ads:List Addr,ads.length=ks.length→(∀ (i:Nat) ad q,ads[i]? = some ad→ks[i]? = some q→H ad=some (.tup [.int q.1,.int q.2]))→∀ pp:List Nat,pp.Perm (List.range ks.length)→pp.Pairwise (fun i j=>kk ks i<kk ks j)→∀ l,H l=none→Q (.ref l) (upd H l (.lst (pp.map fun i=>(ads.map V.ref).getD i .non))))
theorem jle{P:Program}{w:World}:∀ zs:List (List Key×Addr×Value),Vals (zs.map (V.ref ∘ fun z=>z.2.1)) (zs.map ((fun e:DictEntry=>e.key) ∘ entryOfKey (tupleKind (jbo P w))))
 | []=>.nil
 | _::zs=>.cons rfl (jle zs)
theorem jgv{X:Cx}(hc:X.calm=true):CallR X (.builtin "sorted") rSortD:=by
 intro pins s σ H xs us Q I r h
 obtain⟨p,kvs,ks,rfl,hq,hk,⟨o1,o2,o3⟩,q⟩:=h
 obtain⟨u,rfl,rx⟩:=jmi r
 cases rx
 obtain⟨mm,hm,_⟩:=id I.loc
 obtain⟨_,y,zs,rr,o,es,ep,h1,h2,h3,h4,h5⟩:=(show ObjOk X.prog X.w H s.heap p (.dT kvs) from I.hok p _ hq)
 have hlk:kvs.length=ks.length:=by have:=congrArg List.length hk;rwa [List.length_map,List.length_map] at this
 have hlz:zs.length=kvs.length:=(Paired.length rr).symm
 have hls:es.size=ks.length:=by rw[← Array.length_toList,h4,List.length_map,hlz,hlk]
 have at_:∀ (i:Nat) z qq,zs[i]? = some z→ks[i]? = some qq→H z.2.1=some (.tup [.int qq.1,.int qq.2]):=by
  have key:∀ {kvs:List (List Key×V)} {zs:List (List Key×Addr×Value)} {ks:List (Int×Int)},Paired (fun (p:List Key×V) (q:List Key×Addr×Value)=>p.1=q.1∧H q.2.1=some (.tup (p.1.map kV))∧RelV p.2 q.2.2) kvs zs→kvs.map (·.1)=ks.map ofK→∀ (i:Nat) z qq,zs[i]? = some z→ks[i]? = some qq→H z.2.1=some (.tup [.int qq.1,.int qq.2]):=by
   intro kvs zs ks r
   induction r generalizing ks with
   | nil=>intro _ i z qq e;cases e
   | cons hd _ ih =>
    intro hk i z qq e1 e2
    cases ks with
    | nil=>cases e2
    | cons q0 ks =>
     rw[List.map_cons,List.map_cons,List.cons.injEq] at hk
     cases i with
     | zero =>
      cases e1;cases e2
      have:=hd.2.1
      rw[hk.1] at this
      exact this
     | succ i=>exact ih hk.2 i z qq (by simpa using e1) (by simpa using e2)
  exact key rr hk
 refine joa (L:=X.env.locals) (m:=mm) (ks:=ks) (I.ok.hd hc) y ⟨o,h1,h2,h3⟩ hls.symm (by rw[hls];exact o1) (fun i e qq e1 e2=>?_) o2 (by rw[hls];exact o3) hm fun D h' c tk pp pe pw lk hD eD=>?_
 ·rw[← Array.getElem?_toList,h4,List.getElem?_map] at e1
  obtain⟨z,e3,e4⟩:=Option.map_eq_some_iff.mp e1
  obtain⟨_,its,rv,tp⟩:=(show ObjOk X.prog X.w H s.heap z.2.1 (.tup [.int qq.1,.int qq.2]) from I.hok _ _ (at_ i z qq e3 e2))
  cases rv with
  | cons q1 r2 =>
   cases r2 with
   | cons q2 r2 =>
    obtain⟨t1,rfl⟩:=q1
    obtain⟨t2,rfl⟩:=q2
    exact⟨z.2.1,_,t1,t2,_,by rw[← e4];rfl,tp,rfl⟩
 ·have hn:H D=none:=by
   cases e:H D with
   | none=>rfl
   | some z=>obtain⟨o,q⟩:=(I.hok D z e).here;rw[hD] at q;cases q
  have hv:Vals ((zs.map fun z=>z.2.1).map V.ref) (es.toList.map (·.key)):=by
   rw[h4,List.map_map,List.map_map]
   exact jle zs
  rw[hls] at pe
  have hpl:pp.length=ks.length:=by rw[pe.length_eq,List.length_range]
  refine⟨.ref D,_,I.laidL (t':=tk) lk hm hD eD (DL.vals_pick hv pp fun i hi=>?_) (by rw[List.length_map,hpl,show sizeLine=16777216 from sizeLine_eq];omega),rfl,q (zs.map fun z=>z.2.1) (by rw[List.length_map,hlz,hlk]) (fun i ad qq e1 e2=>?_) pp pe pw D hn⟩
  ·rw[List.length_map,List.length_map,hlz,hlk];exact List.mem_range.mp (pe.mem_iff.mp hi)
  ·rw[List.getElem?_map] at e1
   obtain⟨z,e3,e4⟩:=Option.map_eq_some_iff.mp e1
   rw[← e4]
   exact at_ i z qq e3 e2
inductive DAt(K:PySem.W.Frag)(H:Hp)(x y:V)(a:Addr)(kvs:List (List Key×V))(k:List Key):Prop
 | mk (b:Addr) (h1:x=.ref a) (h2:y=.ref b) (h3:H a=some (.dT kvs)) (h4:SqT K H b (k.map kV))
section
variable {X:Cx}{pins:List (Addr×Obj)}{σ:St}{H:Hp}{s:Shared}{a b:Addr}{kvs:List (List Key×V)}{k:List Key}{A:Around}{E:Value→Shared→Prop}
theorem jlt(I:Inv X pins σ H s)(e:SqT X.K H b (k.map kV)):(tupleKind (jbo X.prog X.w)).is s.heap k b:=by
 obtain⟨its,r,⟨o,h1,h2,n,h3⟩,_⟩:=I.tuple e
 exact⟨o,its.toArray,n,h1,h2,h3,by simpa using jhc r⟩
theorem jqp(hu:X.A.units+1<cLine):OpR X (compareOp .NotIn) (fun y x H Q=>∃ a kvs k,DAt X.K H x y a kvs k∧Q (.bl (!(valV kvs k).isSome)) H):=by
 intro pins s σ H y x v u Q I ry rx h
 obtain⟨a,kvs,k,⟨b,rfl,rfl,e,eb⟩,q⟩:=h
 cases rx
 cases ry
 obtain⟨z,hd,xs,rel,dd⟩:=jnq I.hok e
 refine wpAny_notIn_heap (tupleKind_room_in1 hu) (jlt I eb) hd dd ?_
 have qq:=(rel.val k).isSome_eq
 rw[Option.isSome_map] at qq
 rw[← qq]
 exact⟨.bl _,H,I.tok _,rfl,q⟩
theorem jxz{v:V}{Q:Value→Shared→Prop}(hu:A.units+1<cLine)(I:Inv X pins σ H s)(e:H a=some (.dT kvs))(eb:SqT X.K H b (k.map kV))(l:valV kvs k=some v)
  (h:∀ w' s',Inv X pins σ (upd H a (.dT (jey kvs k))) s'→RelV v w'→Q w' s'):wpAny (model X.prog X.w) A (call (.builtin "dict.pop") [.ref a,.ref b]) Q E s:=by
 obtain⟨z,hd,xs,rel,dd⟩:=jnq I.hok e
 have q:=rel.val k
 rw[l] at q
 obtain⟨p,hp,rp⟩:∃ p,atKey xs k=some p∧RelV v p.2:=by
  cases hp:atKey xs k with
  | none=>rw[hp] at q;exact q.elim
  | some p=>rw[hp] at q;exact⟨p,rfl,q⟩
 refine jj6 (tupleKind_room_in1 hu) hd (jlt I eb) dd (by rw[← Paired.length rel];exact z) hp fun h' dd' hs=>h _ _ ?_ rp
 obtain⟨q,es,ep,hq,g2,g3,g4,_,g5⟩:=dd'
 refine jgz I (by rw[e];exact True.intro) hs ⟨q,hq⟩ ⟨Nat.le_trans (jms kvs k) z,hd,_,(KT.keeps (rel.drop k) fun c ys ec=>?_),q,es,ep,hq,g2,g3,g4,g5⟩
 rw[jaj (jl3 ec e (fun z=>nomatch z))];exact ec
end
noncomputable def jAo(K:PySem.W.Frag)(td ty:TE):TE:=fun σ H Q=>td σ H fun x H1=>ty σ H1 fun y H2=>∃ a kvs k v,DAt K H2 x y a kvs k∧valV kvs k=some v∧Q v H2
noncomputable def jAq(K:PySem.W.Frag)(td ty:TE):TE:=fun σ H Q=>td σ H fun x H1=>∃ a,x=.ref a∧IsD H1 a∧ty σ H1 fun y H2=>∃ kvs k v,DAt K H2 x y a kvs k∧valV kvs k=some v∧Q v (upd H2 a (.dT (jey kvs k)))
section
variable {X:Cx}{o i e f:Expr}{apos cpos pos:Pos}{td ty tx:TE}
theorem jtb(hu:X.A.units+1<cLine)(ho:PE X o td)(hi:PE X i ty)(hs:NoSl i):PE X (.Subscript o i pos) (jAo X.K td ty):=by
 intro pins s σ H Q I h
 refine jxc PySem.F.slot_dict_getitem.lookup hs (thn (ho pins s σ H _ I h) fun u s1 ⟨x,H1,I1,rx,q1⟩=>thn (hi pins s1 σ H1 _ I1 q1) fun iv s2 ⟨y,H2,I2,ry,a,kvs,k,v,⟨b,ex,ey,ea,eb⟩,l,q2⟩=>?_)
 subst ex ey
 cases rx
 cases ry
 obtain⟨z,hd,xs,rel,dd⟩:=jnq I2.hok ea
 refine⟨dd.typeIs,?_⟩
 obtain⟨w',hw,rw'⟩:=RelO.some_of (v:=v) (o:=(atKey xs k).map (·.2)) (by rw[← l];exact rel.val k)
 obtain⟨p,hp,hp2⟩:=Option.map_eq_some_iff.mp hw
 refine wpAny_getItem_heap (tupleKind_room_in1 hu) (jlt I2 eb) dd hp ?_
 rw[hp2]
 exact⟨v,H2,I2.tok _,rw',q2⟩
theorem jtd(hu:X.A.units+1<cLine)(ho:PE X o td)(he:PE X e ty)(m:M1 X o "pop" apos e cpos):PE X (.Call (.Attribute o "pop" apos) [e] [] cpos) (jAq X.K td ty):=by
 intro pins s σ H Q I h
 refine wpAny_Call_method m.base m.few m.line PySem.F.plainAttrs_dict PySem.F.slot_dict_pop PySem.F.type_dict_pop (thn (ho pins s σ H _ I h) fun u s1 hzz=>?_)
 obtain⟨x,H1,I1,rx,a,ex,d,q1⟩:=hzz
 subst ex
 cases rx
 obtain⟨t1,t2,_⟩:=jmx I1 d
 refine⟨t1,t2,?_⟩
 rw[m.trees]
 refine Calls.callWith_builtin rfl (Calls.evalArgs_plain (Calls.spliced_cons (thn (he pins s1 σ H1 _ I1 q1) fun iv s2 ⟨y,H2,I2,ry,kvs,k,v,⟨b,ex,ey,ea,eb⟩,l,q2⟩=>Calls.spliced_nil ?_)))
 subst ey
 cases ry
 exact jxz hu I2 ea eb l fun w' s3 I3 rw'=>⟨v,_,I3,rw',q2⟩
end
end L2
namespace DL
open PySem PySem.Spec L2
noncomputable def res1(Ω:Sto):D→Option D
 | .obj i=>match Ω[i]? with
  | some (.lst ds)=>some (.lst ds)
  | _=>none
 | d=>some d
noncomputable def resL(Ω:Sto):List D→Option (List D)
 | []=>some []
 | d::ds=>(res1 Ω d).bind fun x=>(resL Ω ds).map fun xs=>x::xs
noncomputable def resD(Ω:Sto):D→Option D
 | .lst ds=>(resL Ω ds).map .lst
 | d=>res1 Ω d
section
variable {ρ₀ ρ:Rho}{S₀ S F:Addr→Bool}{H₀ H:Hp}{K:PySem.W.Frag}{mg:Str→Option Value}{O:List Nat}{σ:St}{δ:DSt}{Ω:Sto}
theorem RM.res1(R:RM ρ₀ S₀ H₀ F K mg O ρ S H σ δ Ω){d x:D}{v:V}(h:res1 Ω d=some x)(r:Rep ρ K (hid H (fob (un F S) σ O)) d v):Rep ρ K H x v:=by
 cases d with
 | obj i =>
  unfold DL.res1 at h
  dsimp only at h
  cases hi:Ω[i]? with
  | none=>rw[hi] at h;cases h
  | some so =>
   rw[hi] at h
   cases so with
   | lst ds =>
    cases h
    obtain⟨ad,q1,q2⟩:=rep_obj.mp r
    obtain⟨ad',p1,p2,xs,p3,p4⟩:=R.sto.ats i _ hi
    rw[q1] at p1;cases p1
    exact rep_lst.mpr ⟨ad,xs,q2,SqL.of p3,p4.mono jan⟩
   | _=>cases h
 | _=>cases h;exact r.mono jan
theorem RM.resL(R:RM ρ₀ S₀ H₀ F K mg O ρ S H σ δ Ω):∀ {ds xs:List D} {vs:List V},resL Ω ds=some xs→Reps ρ K (hid H (fob (un F S) σ O)) ds vs→Reps ρ K H xs vs
 | [],xs,vs,h,r=>by
  cases h
  rw[reps_nil.mp r];exact Reps.nil
 | d::ds,xs,vs,h,r=>by
  unfold DL.resL at h
  cases f1:DL.res1 Ω d with
  | none=>rw[f1] at h;cases h
  | some x =>
   cases f2:DL.resL Ω ds with
   | none=>rw[f1,f2] at h;cases h
   | some xs' =>
    rw[f1,f2] at h
    cases h
    obtain⟨v,r',rfl,q1,q2⟩:=reps_cons.mp r
    exact Reps.cons (R.res1 f1 q1) (R.resL f2 q2)
theorem RM.resD(R:RM ρ₀ S₀ H₀ F K mg O ρ S H σ δ Ω){d x:D}{v:V}(h:resD Ω d=some x)(r:Rep ρ K (hid H (fob (un F S) σ O)) d v):Rep ρ K H x v:=by
 cases d with
 | lst ds =>
  unfold DL.resD at h
  dsimp only at h
  cases f:DL.resL Ω ds with
  | none=>rw[f] at h;cases h
  | some xs =>
   rw[f] at h
   cases h
   obtain⟨a,ys,rfl,q1,q2⟩:=rep_lst.mp r
   exact rep_lst.mpr ⟨a,ys,rfl,jc1 jan q1,R.resL f q2⟩
 | _=>unfold DL.resD at h;exact R.res1 h r
end
noncomputable def neS(x y:D):MS D:=fun Ω=>match resD Ω x,resD Ω y with
 | some x',some y'=>(gNe x' y').map fun d=>(.ok d,Ω)
 | _,_=>none
inductive NeSI(x y:D)(Ω Ω':Sto)(r:Except XD D):Prop
 | mk (x' y':D) (h1:resD Ω x=some x') (h2:resD Ω y=some y') (h3:(okD x'&&okD y'&&decide (depD x'≤20))=true) (h4:r=.ok (.bl !(eqB x' y'))) (h5:Ω'=Ω)
theorem jwd{x y:D}{Ω Ω':Sto}{r:Except XD D}(h:neS x y Ω=some (r,Ω')):NeSI x y Ω Ω' r:=by
 unfold neS at h
 split at h
 ·rename_i x' y' e1 e2
  unfold gNe at h
  split at h
  ·rename_i hh
   cases h
   exact⟨x',y',e1,e2,hh,rfl,rfl⟩
  ·cases h
 ·cases h
noncomputable def mNeS(fa fb:DSt→MS D):DSt→MS D:=fun δ=>(fa δ).b fun x=>(fb δ).b fun y=>neS x y
noncomputable def isiS(xs:List D):MS D:=fun Ω=>match xs with
 | [x,.ty T]=>match res1 Ω x with
  | some x'=>(kIsi [x',.ty T]).map fun d=>(.ok d,Ω)
  | none=>none
 | _=>none
section
variable {X:Cx}{O B:List Nat}{a b c e o:Expr}{es:List Expr}{fa fb fo fv:DSt→MS D}{fl:DSt→MS (List D)}{pos:Pos}
theorem jzf{σ:St}{H:Hp}{Q:VK}(h:tE X.K X.mg O (mNeS fa fb) σ H Q):tOp (rEqD X.K true) (tE X.K X.mg O fa) (tE X.K X.mg O fb) σ H Q:=by
 obtain⟨ρ₀,S₀,H₀,F,ρ,S,δ,Ω,R,r,Ω',hf,k⟩:=h
 rcases MS.b_inv hf with ⟨x,Ω1,e1,hf⟩|⟨x,e1,rfl⟩
 ·refine⟨ρ₀,S₀,H₀,F,ρ,S,δ,Ω,R,.ok x,Ω1,e1,fun u ρ1 S1 H1 R1 l1 v1 r1=>?_⟩
  rcases MS.b_inv hf with ⟨y,Ω2,e2,hf⟩|⟨y,e2,rfl⟩
  ·refine⟨ρ₀,S₀,H₀,F,ρ1,S1,δ,Ω1,R1,.ok y,Ω2,e2,fun w ρ2 S2 H2 R2 l2 v2 r2=>?_⟩
   obtain⟨x',y',f1,f2,hh,rfl,rfl⟩:=jwd hf
   rw[Bool.and_eq_true,Bool.and_eq_true,decide_eq_true_eq] at hh
   exact⟨ρ2,x',y',hh.1.1,hh.1.2,hh.2,R2.resD f1 ((r1.rho l2).mono v2),R2.resD f2 r2,k _ ρ2 S2 H2 R2 (l1.trans l2) (v1.trans v2) (rep_bl.mpr rfl)⟩
  ·exact⟨ρ₀,S₀,H₀,F,ρ1,S1,δ,Ω1,R1,.error y,_,e2,trivial⟩
 ·exact⟨ρ₀,S₀,H₀,F,ρ,S,δ,Ω,R,.error x,_,e1,trivial⟩
theorem jqd{p:Pos}(hG:Gl X "isinstance")(hm:X.mg "isinstance"=none)(hl:MA X O [a,b] fl)(he:autoParam (starEach [a,b] X.env=(false,eval a X.env)::starEach [b] X.env) zau2._auto_1)(hpl:autoParam ((backTo pos (starEach [b] X.env)).any (·.1)=false) zau2._auto_1) :
  ME X O (.Call (.Name "isinstance" p) [a,b] [] pos) (fun δ=>(fl δ).b isiS):=by
 rintro pins s σ H Q I ⟨ρ₀,S₀,H₀,F,ρ,S,δ,Ω,R,r,Ω',hf,k⟩
 refine jft joz hG hm ji2 hl (by decide) (by decide) he hpl pins s σ H Q I ?_
 rcases MS.b_inv hf with ⟨xs,Ω1,e1,hf⟩|⟨x,e1,rfl⟩
 ·refine⟨ρ₀,S₀,H₀,F,ρ,S,δ,Ω,R,.ok xs,Ω1,e1,fun us ρ1 S1 H1 R1 l1 v1 r1=>?_⟩
  unfold isiS at hf
  split at hf
  ·rename_i x T
   split at hf
   ·rename_i x' f1
    cases hk:kIsi [x',.ty T] with
    | none=>rw[hk] at hf;cases hf
    | some d =>
     rw[hk] at hf
     cases hf
     obtain⟨w1,w2,rfl,y1,y2⟩:=jk0 r1
     cases rep_ty.mp y2
     have hb:∃ bb,d=.bl bb:=by
      have hk2:(if T="int"∨T="bool"∨T="tuple"∨T="list"∨T="str" then (isiD T x').map D.bl else none)=some d:=hk
      split at hk2
      ·obtain⟨bb,_,hb⟩:=Option.map_eq_some_iff.mp hk2
       exact⟨bb,hb.symm⟩
      ·cases hk2
     obtain⟨bb,rfl⟩:=hb
     exact⟨ρ1,x',w1,T,bb,rfl,R1.res1 f1 y1,hk,k _ ρ1 S1 H1 R1 l1 v1 (rep_bl.mpr rfl)⟩
   ·cases hf
  ·cases hf
 ·exact⟨ρ₀,S₀,H₀,F,ρ,S,δ,Ω,R,.error x,_,e1,trivial⟩
noncomputable def jp7(i:Nat)(f:DSt→M D):DSt→MS D:=fun δ Ω=>match (δ[i]?).join with
 | some (.obj n)=>match Ω[n]? with
  | some (.lst ds)=>MS.l (jyl f (δ.set i (some (.lst ds)))) Ω
  | _=>none
 | _=>none
theorem jv6{i:Nat}{f:DSt→M D}(ho:O.contains i=false)(h:DE X O E0 e f):ME X O e (jp7 i f):=by
 rintro pins s σ H Q I ⟨ρ₀,S₀,H₀,F,ρ,S,δ,Ω,R,r,Ω',hf,k⟩
 have ho':i∉O:=fun z=>by rw[List.contains_iff_mem.mpr z] at ho;cases ho
 unfold jp7 at hf
 split at hf
 ·rename_i n hn
  split at hf
  ·rename_i ds hds
   have hδ:δ[i]? = some (some (.obj n)):=by
    cases z:δ[i]? with
    | none=>rw[z] at hn;cases hn
    | some y=>rw[z] at hn;exact congrArg some hn
   obtain⟨v,s1,rv⟩:=R.rs.val i _ hδ ho'
   obtain⟨ad,q1,rfl⟩:=rep_obj.mp rv
   obtain⟨ad',p1,p2,xs,p3,p4⟩:=R.sto.ats n _ hds
   rw[q1] at p1;cases p1
   have le:Same (hid H (fob (un F S) σ O)) (hid H (fob nof σ O)):=jcr fun b q=>by
    rcases fob_t.mp q with z|z
    ·cases z
    ·exact fob_t.mpr (.inr z)
   have hfo:fob nof σ O ad=false:=by
    cases z:fob nof σ O ad with
    | false=>rfl
    | true =>
     rcases fob_t.mp z with z|z
     ·cases z
     ·exact absurd z (R.base_S p2)
   have hil:i<δ.length:=(List.getElem?_eq_some_iff.mp hδ).1
   have rs:RS ρ X.K (hid H (fob nof σ O)) H nof O σ (δ.set i (some (.lst ds))):=by
    refine⟨by rw[List.length_set];exact R.rs.len,jan,fun b z=>(by cases z),fun j d hd hj=>?_,fun j hj=>?_,R.rs.nd⟩
    ·by_cases ej:j=i
     ·subst ej
      rw[List.getElem?_set_self hil] at hd
      cases hd
      exact⟨.ref ad,s1,rep_lst.mpr ⟨ad,xs,rfl,SqL.of (hid_some.mpr ⟨hfo,p3⟩),p4.mono le⟩⟩
     ·rw[List.getElem?_set_ne (Ne.symm ej)] at hd
      obtain⟨v,t1,t2⟩:=R.rs.val j d hd hj
      exact⟨v,t1,t2.mono le⟩
    ·obtain⟨a,ys,es,t1,t2,t3,t4,t5⟩:=R.rs.own j hj
     exact⟨a,ys,es,by rw[List.getElem?_set_ne (by rintro rfl;exact ho' hj)];exact t1,t2,t3,⟨t4.1,rfl⟩,t5.mono le⟩
   obtain⟨hg,rfl⟩:=MS.l_inv hf
   rcases M.b_inv hg with ⟨x,e1,hg⟩|⟨x,e1,rfl⟩
   ·split at hg
    ·rename_i hs
     cases hg
     exact h pins s σ H Q I ⟨ρ,_,nof,_,.ok x,rs,e1,fun v H' s' rv=>k v ρ S H' (R.mono s') (RLe.refl _) (jaf s') (jng hs rv)⟩
    ·cases hg
   ·exact h pins s σ H Q I ⟨ρ,_,nof,_,.error x,rs,e1,fun c dx H' _ z=>z.elim⟩
  ·cases hf
 ·cases hf
noncomputable def jp1(xs:List D):MS D:=fun Ω=>match xs with
 | [.obj n]=>match Ω[n]? with
  | some (.lst ds)=>some (.ok (.obj Ω.length),Ω++[.lst ds])
  | _=>none
 | _=>none
theorem jsw{p:Pos}(hG:Gl X "list")(hm:X.mg "list"=none)(hl:MA X O [a] fl)(he:autoParam (starEach [a] X.env=(false,eval a X.env)::starEach [] X.env) zau2._auto_1)(hpl:autoParam ((backTo pos (starEach [] X.env)).any (·.1)=false) zau2._auto_1) :
  ME X O (.Call (.Name "list" p) [a] [] pos) (fun δ=>(fl δ).b jp1):=by
 rintro pins s σ H Q I ⟨ρ₀,S₀,H₀,F,ρ,S,δ,Ω,R,r,Ω',hf,k⟩
 refine jfu jj5 hG hm ji3 hl (by decide) (by decide) he hpl pins s σ H Q I ?_
 rcases MS.b_inv hf with ⟨xs,Ω1,e1,hf⟩|⟨x,e1,rfl⟩
 ·refine⟨ρ₀,S₀,H₀,F,ρ,S,δ,Ω,R,.ok xs,Ω1,e1,fun us ρ1 S1 H1 R1 l1 v1 r1=>?_⟩
  unfold jp1 at hf
  split at hf
  ·rename_i n
   split at hf
   ·rename_i ds hn
    cases hf
    obtain⟨v,rfl,q⟩:=jhu r1
    obtain⟨ad,q1,q2⟩:=rep_obj.mp q
    obtain⟨ad',p1,p2,ys,p3,p4⟩:=R1.sto.ats n _ hn
    rw[q1] at p1;cases p1
    refine⟨ad,ys,by rw[q2],.inl (SqL.of p3),fun l hl'=>?_⟩
    obtain⟨t1,t2,t3⟩:=R1.newL hl' p4
    exact k _ _ _ _ t1 (l1.trans t2) (v1.trans t3) (rep_obj.mpr ⟨l,by unfold addR;rw[if_pos rfl],rfl⟩)
   ·cases hf
  ·cases hf
 ·exact⟨ρ₀,S₀,H₀,F,ρ,S,δ,Ω,R,.error x,_,e1,trivial⟩
noncomputable def jsp(fo:DSt→MS D):DSt→MS D:=fun δ=>(fo δ).b fun x=>putL (fun _=>some []) x
theorem jv3{p2 p3:Pos}(ho:ME X O o fo)(hbase:autoParam (attributeBase o "clear" X.env (eval o X.env)=eval o X.env) zau2._auto_1)(hline:autoParam ((p2.endLine == p3.line)=true) zau2._auto_1) :
  ME X O (.Call (.Attribute o "clear" p2) [] [] p3) (jsp fo):=by
 rintro pins s σ H Q I ⟨ρ₀,S₀,H₀,F,ρ,S,δ,Ω,R,r,Ω',hf,k⟩
 refine jzr PySem.F.plainAttrs_list PySem.F.slot_list_clear PySem.F.type_list_clear js3 ho hbase hline pins s σ H Q I ?_
 rcases MS.b_inv hf with ⟨x,Ω1,e1,hf⟩|⟨x,e1,rfl⟩
 ·refine⟨ρ₀,S₀,H₀,F,ρ,S,δ,Ω,R,.ok x,Ω1,e1,fun u ρ1 S1 H1 R1 l1 v1 r1=>?_⟩
  obtain⟨i,ds,es',rfl,hi,hg,rfl,rfl⟩:=jex hf
  cases hg
  obtain⟨ad,q1,q2⟩:=rep_obj.mp r1
  obtain⟨ad',p1,p2,xs,p3,p4⟩:=R1.sto.ats i _ hi
  rw[q1] at p1;cases p1
  subst q2
  refine⟨.inl ⟨rfl,xs,SqL.of p3⟩,ad,xs,rfl,rfl,p3,?_⟩
  obtain⟨w1,w2⟩:=R1.putL hi q1 p2 p3 (ds':=[]) (xs':=[]) Reps.nil
  exact k _ ρ1 S1 _ w1 l1 (by rw[w2];exact v1) (rep_non.mpr rfl)
 ·exact⟨ρ₀,S₀,H₀,F,ρ,S,δ,Ω,R,.error x,_,e1,trivial⟩
end
noncomputable def atS(g:List (List Int×D)→List Int→Option (D×List (List Int×D)))(x y:D):MS D:=match y with
 | .tup ks=>atD g x ks
 | _=>fun _=>none
inductive AtSI(g:List (List Int×D)→List Int→Option (D×List (List Int×D)))(x y:D)(Ω Ω':Sto)(r:Except XD D):Prop
 | mk (n:Nat) (i j:Int) (kvs kvs':List (List Int×D)) (d:D) (h1:x=.obj n) (h2:y=.tup [.int i,.int j]) (h3:Ω[n]? = some (.dct kvs)) (h4:g kvs [i,j]=some (d,kvs')) (h5:r=.ok d) (h6:Ω'=Ω.set n (.dct kvs'))
theorem jgq{g:List (List Int×D)→List Int→Option (D×List (List Int×D))}{x y:D}{Ω Ω':Sto}{r:Except XD D}(h:atS g x y Ω=some (r,Ω')):AtSI g x y Ω Ω' r:=by
 unfold atS at h
 split at h
 ·obtain⟨n,i,j,kvs,kvs',d,h1,h2,h3,h4,h5,h6⟩:=jiw h
  exact⟨n,i,j,kvs,kvs',d,h1,by rw[h2],h3,h4,h5,h6⟩
 ·cases h
noncomputable def gIxD(kvs:List (List Int×D))(k:List Int):Option (D×List (List Int×D)):=(jc6 kvs k).map fun d=>(d,kvs)
noncomputable def jvo(kvs:List (List Int×D))(k:List Int):Option (D×List (List Int×D)):=some (.bl (!(jc6 kvs k).isSome),kvs)
noncomputable def jse(v:D)(kvs:List (List Int×D))(k:List Int):Option (D×List (List Int×D)):=if (jc6 kvs k).isSome=false∧kvs.length<sizeLine then some (.non,kvs++[(k,v)]) else none
noncomputable def jp6(fo fi:DSt→MS D):DSt→MS D:=fun δ=>(fo δ).b fun x=>(fi δ).b fun y=>atS gIxD x y
noncomputable def jp8(fo fi:DSt→MS D):DSt→MS D:=fun δ=>(fo δ).b fun x=>(chkD x).b fun x=>(fi δ).b fun y=>atS jja x y
noncomputable def jhl(fi fo:DSt→MS D):DSt→MS D:=fun δ=>(fi δ).b fun y=>(fo δ).b fun x=>atS jvo x y
noncomputable def jr6(fo fi fv:DSt→MS D):DSt→MS Out:=fun δ=>(fv δ).b fun d=>(fo δ).b fun x=>(fi δ).b fun y=>(atS (jse d) x y).b fun _=>MS.p (.nx δ)
section
variable {ρ₀ ρ:Rho}{S₀ S F:Addr→Bool}{H₀ H:Hp}{K:PySem.W.Frag}{mg:Str→Option Value}{O:List Nat}{σ:St}{δ:DSt}{Ω:Sto}
inductive DctAt(ρ:Rho)(S:Addr→Bool)(K:PySem.W.Frag)(H Hv:Hp)(n:Nat)(kvs:List (List Int×D))(u:V):Prop
 | mk (a:Addr) (vk:List (List Key×V)) (h1:u=.ref a) (h2:ρ n=some a) (h3:S a=true) (h4:H a=some (.dT vk)) (h5:vk.map (·.1)=kvs.map (fun p=>p.1.map Sum.inl)) (h6:Reps ρ K Hv (kvs.map (·.2)) (vk.map (·.2)))
theorem RM.dct(R:RM ρ₀ S₀ H₀ F K mg O ρ S H σ δ Ω){n:Nat}{kvs:List (List Int×D)}{u:V}(hi:Ω[n]? = some (.dct kvs))(r:Rep ρ K (hid H (fob (un F S) σ O)) (.obj n) u):DctAt ρ S K H (hid H (fob (un F S) σ O)) n kvs u:=by
 obtain⟨ad,q1,q2⟩:=rep_obj.mp r
 obtain⟨ad',p1,p2,vk,p3,p4,p5⟩:=R.sto.ats n _ hi
 rw[q1] at p1;cases p1
 exact⟨ad,vk,q2,q1,p2,p3,p4,p5⟩
inductive PairAt(K:PySem.W.Frag)(H:Hp)(i j:Int)(u:V):Prop
 | mk (b:Addr) (h1:u=.ref b) (h2:SqT K H b [.int i,.int j])
theorem jl9{Hv:Hp}{i j:Int}{u:V}(s:Same Hv H)(r:Rep ρ K Hv (.tup [.int i,.int j]) u):PairAt K H i j u:=by
 obtain⟨b,xs,rfl,q1,q2⟩:=rep_tup.mp r
 obtain⟨w1,w2,rfl,y1,y2⟩:=jk0 q2
 cases rep_int.mp y1
 cases rep_int.mp y2
 exact⟨b,rfl,jcy s q1⟩
end
section
variable {X:Cx}{O B:List Nat}{a b e i o:Expr}{fa fo fi fv:DSt→MS D}{pos:Pos}
theorem jv5(hu:X.A.units+1<cLine)(ho:ME X O o fo)(hi:ME X O i fi)(hs:autoParam (NoSl i) zau6._auto_1):ME X O (.Subscript o i pos) (jp6 fo fi):=by
 rintro pins s σ H Q I ⟨ρ₀,S₀,H₀,F,ρ,S,δ,Ω,R,r,Ω',hf,k⟩
 refine jtb hu ho hi hs pins s σ H Q I ?_
 rcases MS.b_inv hf with ⟨x,Ω1,e1,hf⟩|⟨x,e1,rfl⟩
 ·refine⟨ρ₀,S₀,H₀,F,ρ,S,δ,Ω,R,.ok x,Ω1,e1,fun u ρ1 S1 H1 R1 l1 v1 r1=>?_⟩
  rcases MS.b_inv hf with ⟨y,Ω2,e2,hf⟩|⟨y,e2,rfl⟩
  ·refine⟨ρ₀,S₀,H₀,F,ρ1,S1,δ,Ω1,R1,.ok y,Ω2,e2,fun w ρ2 S2 H2 R2 l2 v2 r2=>?_⟩
   obtain⟨n,i,j,kvs,kvs',d,rfl,rfl,hn,hg,rfl,rfl⟩:=jgq hf
   obtain⟨ad,vk,rfl,t1,t2,t3,t4,t5⟩:=R2.dct hn ((r1.rho l2).mono v2)
   obtain⟨b,rfl,sb⟩:=jl9 jan r2
   unfold gIxD at hg
   rcases jfm [i,j] t4 t5 with ⟨z1,z2⟩|⟨d0,u0,z1,z2,z3⟩
   ·rw[z1] at hg;cases hg
   ·rw[z1] at hg
    cases hg
    rw[jdt hn] at k
    exact⟨ad,vk,[Sum.inl i,Sum.inl j],u0,⟨b,rfl,rfl,t3,sb⟩,z2,k _ ρ2 S2 H2 R2 (l1.trans l2) (v1.trans v2) z3⟩
  ·exact⟨ρ₀,S₀,H₀,F,ρ1,S1,δ,Ω1,R1,.error y,_,e2,trivial⟩
 ·exact⟨ρ₀,S₀,H₀,F,ρ,S,δ,Ω,R,.error x,_,e1,trivial⟩
theorem jv9{p2 p3:Pos}(hu:X.A.units+1<cLine)(ho:ME X O o fo)(hi:ME X O i fi)(m:autoParam (M1 X o "pop" p2 i p3) zau9._auto_1):ME X O (.Call (.Attribute o "pop" p2) [i] [] p3) (jp8 fo fi):=by
 rintro pins s σ H Q I ⟨ρ₀,S₀,H₀,F,ρ,S,δ,Ω,R,r,Ω',hf,k⟩
 refine jtd hu ho hi m pins s σ H Q I ?_
 rcases MS.b_inv hf with ⟨x,Ω1,e1,hf⟩|⟨x,e1,rfl⟩
 ·refine⟨ρ₀,S₀,H₀,F,ρ,S,δ,Ω,R,.ok x,Ω1,e1,fun u ρ1 S1 H1 R1 l1 v1 r1=>?_⟩
  rcases MS.b_inv hf with ⟨x',Ω1',e1',hf⟩|⟨x',e1',rfl⟩
  ·obtain⟨n,kvs0,rfl,hi0,hr,rfl⟩:=jdn e1'
   cases hr
   obtain⟨ad,vk0,rfl,s1,s2,s3,s4,s5⟩:=R1.dct hi0 r1
   refine⟨ad,rfl,.inr ⟨vk0,.inl s3⟩,?_⟩
   rcases MS.b_inv hf with ⟨y,Ω2,e2,hf⟩|⟨y,e2,rfl⟩
   ·refine⟨ρ₀,S₀,H₀,F,ρ1,S1,δ,_,R1,.ok y,Ω2,e2,fun w ρ2 S2 H2 R2 l2 v2 r2=>?_⟩
    obtain⟨n',i,j,kvs,kvs',d,hx',rfl,hn,hg,rfl,rfl⟩:=jgq hf
    cases hx'
    obtain⟨ad',vk,ea,t1,t2,t3,t4,t5⟩:=R2.dct hn ((r1.rho l2).mono v2)
    cases ea
    obtain⟨b,rfl,sb⟩:=jl9 jan r2
    unfold jja at hg
    rcases jfm [i,j] t4 t5 with ⟨z1,z2⟩|⟨d0,u0,z1,z2,z3⟩
    ·rw[z1] at hg;cases hg
    ·rw[z1] at hg
     cases hg
     obtain⟨d1,d2⟩:=jvd [i,j] t4 t5
     obtain⟨w1,w2⟩:=R2.putS (so':=.dct (delD kvs [i,j])) (o':=.dT (jey vk [Sum.inl i,Sum.inl j])) hn t1 t2 t3 (fun _ z=>nomatch z) ⟨_,jag,d1,d2⟩
     exact⟨vk,[Sum.inl i,Sum.inl j],u0,⟨b,rfl,rfl,t3,sb⟩,z2,k _ ρ2 S2 _ w1 (l1.trans l2) (by rw[w2];exact v1.trans v2) (by rw[w2];exact z3)⟩
   ·exact⟨ρ₀,S₀,H₀,F,ρ1,S1,δ,_,R1,.error y,_,e2,trivial⟩
  ·exact absurd (jdn e1') (fun ⟨_,_,_,_,h,_⟩=>by cases h)
 ·exact⟨ρ₀,S₀,H₀,F,ρ,S,δ,Ω,R,.error x,_,e1,trivial⟩
theorem jql{σ:St}{H:Hp}{Q:VK}(h:tE X.K X.mg O (jhl fi fo) σ H Q):tOp (fun y x H Q=>∃ a kvs k,DAt X.K H x y a kvs k∧Q (.bl (!(valV kvs k).isSome)) H) (tE X.K X.mg O fi) (tE X.K X.mg O fo) σ H Q:=by
 obtain⟨ρ₀,S₀,H₀,F,ρ,S,δ,Ω,R,r,Ω',hf,k⟩:=h
 rcases MS.b_inv hf with ⟨y,Ω1,e1,hf⟩|⟨x,e1,rfl⟩
 ·refine⟨ρ₀,S₀,H₀,F,ρ,S,δ,Ω,R,.ok y,Ω1,e1,fun u ρ1 S1 H1 R1 l1 v1 r1=>?_⟩
  rcases MS.b_inv hf with ⟨x,Ω2,e2,hf⟩|⟨y,e2,rfl⟩
  ·refine⟨ρ₀,S₀,H₀,F,ρ1,S1,δ,Ω1,R1,.ok x,Ω2,e2,fun w ρ2 S2 H2 R2 l2 v2 r2=>?_⟩
   obtain⟨n,i,j,kvs,kvs',d,rfl,rfl,hn,hg,rfl,rfl⟩:=jgq hf
   obtain⟨ad,vk,rfl,t1,t2,t3,t4,t5⟩:=R2.dct hn r2
   obtain⟨b,rfl,sb⟩:=jl9 jan ((r1.rho l2).mono v2)
   unfold jvo at hg
   cases hg
   rw[jdt hn] at k
   have he:(valV vk [Sum.inl i,Sum.inl j]).isSome=(jc6 kvs [i,j]).isSome:=by
    rcases jfm [i,j] t4 t5 with ⟨z1,z2⟩|⟨d0,u0,z1,z2,z3⟩
    ·rw[z1,show valV vk [Sum.inl i,Sum.inl j]=none from z2];rfl
    ·rw[z1,show valV vk [Sum.inl i,Sum.inl j]=some u0 from z2];rfl
   exact⟨ad,vk,[Sum.inl i,Sum.inl j],⟨b,rfl,rfl,t3,sb⟩,by rw[he];exact k _ ρ2 S2 H2 R2 (l1.trans l2) (v1.trans v2) (rep_bl.mpr rfl)⟩
  ·exact⟨ρ₀,S₀,H₀,F,ρ1,S1,δ,Ω1,R1,.error y,_,e2,trivial⟩
 ·exact⟨ρ₀,S₀,H₀,F,ρ,S,δ,Ω,R,.error x,_,e1,trivial⟩
theorem juv{σ:St}{H:Hp}{Q:Bool→Hp→Prop}{f:DSt→MS D}(h:tEB X.K X.mg O (mB f) σ H Q):tE X.K X.mg O f σ H fun v H'=>∃ k,v=.bl k∧Q k H':=by
 obtain⟨ρ₀,S₀,H₀,F,ρ,S,δ,Ω,R,rr,Ω',hf,k⟩:=h
 rcases MS.b_inv hf with ⟨x,Ω1,e1,hf⟩|⟨x,e1,rfl⟩
 ·cases x with
  | bl kk=>cases hf;exact⟨ρ₀,S₀,H₀,F,ρ,S,δ,Ω,R,.ok (.bl kk),_,e1,fun v ρ' S' H' R' l sm rv=>⟨kk,rep_bl.mp rv,k ρ' S' H' R' l sm⟩⟩
  | _=>cases hf
 ·exact⟨ρ₀,S₀,H₀,F,ρ,S,δ,Ω,R,.error x,Ω',e1,k⟩
theorem jqi(hu:X.A.units+1<cLine)(hi:ME X O i fi)(ho:ME X O o fo)(hm:behindInMarks .NotIn o=false):MT X O (.Compare i [.NotIn] [o] pos) (mB (jhl fi fo)) :=
 fun pins s σ H Q I h=>jjm (jqp hu) hi ho hm pins s σ H Q I (jql (juv h))
theorem jzb{fb:DSt→MS D}(hop:OpR X (compareOp .NotEq) (rEqD X.K true))(ha:ME X O a fa)(hb:ME X O b fb)(hm:behindInMarks .NotEq b=false):MT X O (.Compare a [.NotEq] [b] pos) (mB (mNeS fa fb)) :=
 fun pins s σ H Q I h=>jjm hop ha hb hm pins s σ H Q I (jzf (juv h))
theorem js1{v:Expr}{lo hi:Option Expr}{f:DSt→M D}{fl fh:DSt→M (Option Int)}{p1 p2 p3:Pos}(hu:X.A.units+1<cLine)(ho:ME X O o fo)(ha:DE X O E0 e f)(hl:DO X O E0 lo fl)(hh:DO X O E0 hi fh)(hv:ME X O v fv)
  (hs:autoParam (swapsWith v (some (.Subscript o (.Subscript e (.Slice lo hi none p1) p2) p3)) pos.line X.env=pure false) zau2._auto_1) :
  MSt X O O B (.Assign [.Subscript o (.Subscript e (.Slice lo hi none p1) p2) p3] v pos) (jr6 fo (lF (fSl f fl fh)) fv):=by
 rintro pins s σ H Dn I ⟨ρ₀,S₀,H₀,F,ρ,S,δ,Ω,R,r,Ω',hg,k⟩
 refine jwv hu ho (jm8 sl_tup ha hl hh) hv hs pins s σ H Dn I ?_
 rcases MS.b_inv hg with ⟨d,Ω1,e1,hg1⟩|⟨d,e1,rfl⟩
 ·refine⟨ρ₀,S₀,H₀,F,ρ,S,δ,Ω,R,.ok d,Ω1,e1,fun vv ρ1 S1 H1 R1 l1 v1 r1=>?_⟩
  rcases MS.b_inv hg1 with ⟨x,Ω2,e2,hg2⟩|⟨x,e2,rfl⟩
  ·refine⟨ρ₀,S₀,H₀,F,ρ1,S1,δ,Ω1,R1,.ok x,Ω2,e2,fun u ρ2 S2 H2 R2 l2 v2 r2=>?_⟩
   rcases MS.b_inv hg2 with ⟨y,Ω3,e30,hg3⟩|⟨y,e30,rfl⟩
   ·obtain⟨e3,rfl⟩:=MS.l_inv e30
    rcases MS.b_inv hg3 with ⟨z,Ω4,e4,hg4⟩|⟨z,e4,rfl⟩
    ·cases hg4
     obtain⟨n,i,j,kvs,kvs',d',rfl,rfl,hn,hg',_,rfl⟩:=jgq e4
     rcases M.b_inv e3 with ⟨x',f1,e3⟩|⟨x',f1,z⟩
     ·refine⟨ρ2,_,un F S2,δ,.ok x',R2.rs,f1,fun w H3 s3 r3=>?_⟩
      rcases M.b_inv e3 with ⟨l,f2,e3⟩|⟨y,f2,z⟩
      ·refine⟨ρ2,_,un F S2,δ,.ok l,R2.rs.mono s3,f2,fun H4 s4=>?_⟩
       rcases M.b_inv e3 with ⟨h,f3,e3⟩|⟨y,f3,z⟩
       ·refine⟨ρ2,_,un F S2,δ,.ok h,R2.rs.mono (s3.trans s4),f3,fun H5 s5=>?_⟩
        obtain⟨dd,hd,ee⟩:=M.o_inv e3
        cases ee
        have sm:=s3.trans (s4.trans s5)
        have R5:=R2.mono sm
        have r5:=r3.mono (jaf (s4.trans s5))
        cases x' with
        | tup ds =>
         have hd':(if HT.sIx ds.length 0 l=0∧HT.sIx ds.length ds.length h=ds.length then none else some (D.tup (cutL ds l h)))=some (D.tup [.int i,.int j]):=hd
         split at hd'
         ·cases hd'
         ·rename_i hne
          have hcut:cutL ds l h=[.int i,.int j]:=D.tup.inj (Option.some.inj hd')
          obtain⟨q,xs,rfl,q2,q3⟩:=rep_tup.mp r5
          refine⟨q,xs,rfl,jcy jan q2,by rw[q3.length];exact hne,fun p hp=>?_⟩
          have rc:=q3.cut l h
          rw[hcut] at rc
          obtain⟨w1,w2,ec,y1,y2⟩:=jk0 rc
          cases rep_int.mp y1
          cases rep_int.mp y2
          rw[ec]
          have sp:=jal hp (o:=.tup [.int i,.int j])
          have R6:=R5.mono sp
          have r6:=((r2.mono (jaf (sm.trans sp))))
          obtain⟨ad,vk,rfl,t1,t2,t3,t4,t5⟩:=R6.dct hn r6
          unfold jse at hg'
          split at hg'
          ·rename_i hz
           cases hg'
           have hlen:vk.length=kvs.length:=by
            have:=congrArg List.length t4
            rwa [List.length_map,List.length_map] at this
           have hnone:valV vk [Sum.inl i,Sum.inl j]=none:=by
            rcases jfm [i,j] t4 t5 with ⟨z1,z2⟩|⟨d0,u0,z1,z2,z3⟩
            ·exact z2
            ·rw[z1] at hz;cases hz.1
           have rd:=(((r1.rho l2).mono v2)).mono (jaf (sm.trans sp))
           obtain⟨w1,w2⟩:=R6.putS (so':=.dct (kvs++[([i,j],d)])) (o':=.dT (vk++[([Sum.inl i,Sum.inl j],vv)])) hn t1 t2 t3 (fun _ z=>nomatch z) ⟨_,jag,by rw[List.map_append,List.map_append,t4];rfl,by rw[List.map_append,List.map_append];exact t5.append (Reps.cons rd Reps.nil)⟩
           refine⟨ad,_,rfl,.inr ⟨vk,[Sum.inl i,Sum.inl j],p,t3,rfl,jag,by rw[hlen];exact hz.2,rfl⟩,?_⟩
           rw[jtm _ hnone]
           exact k ρ2 S2 σ _ w1 (l1.trans l2) (by rw[w2];exact v1.trans (v2.trans (jaf (sm.trans sp))))
          ·cases hg'
        | lst ds=>cases hd
        | str z =>
         have hd':(if z.length≤sizeLine then some (D.str (Txt.slice z l h)) else none)=some (D.tup [.int i,.int j]):=hd
         split at hd'<;>cases hd'
        | _=>cases hd
       ·cases z
      ·cases z
     ·cases z
    ·exact absurd (jgq e4) (fun ⟨_,_,_,_,_,_,_,_,_,_,h,_⟩=>by cases h)
   ·obtain⟨e3,rfl⟩:=MS.l_inv e30
    rcases M.b_inv e3 with ⟨x',f1,e3⟩|⟨x',f1,z⟩
    ·refine⟨ρ2,_,un F S2,δ,.ok x',R2.rs,f1,fun w H3 s3 r3=>?_⟩
     rcases M.b_inv e3 with ⟨l,f2,e3⟩|⟨y',f2,z⟩
     ·refine⟨ρ2,_,un F S2,δ,.ok l,R2.rs.mono s3,f2,fun H4 s4=>?_⟩
      rcases M.b_inv e3 with ⟨h,f3,e3⟩|⟨y',f3,z⟩
      ·obtain⟨dd,hd,ee⟩:=M.o_inv e3
       cases ee
      ·exact⟨ρ2,_,un F S2,δ,.error y',R2.rs.mono (s3.trans s4),f3,fun c dx H' _ z=>z.elim⟩
     ·exact⟨ρ2,_,un F S2,δ,.error y',R2.rs.mono s3,f2,fun c dx H' _ z=>z.elim⟩
    ·exact⟨ρ2,_,un F S2,δ,.error x',R2.rs,f1,fun c dx H' _ z=>z.elim⟩
  ·exact⟨ρ₀,S₀,H₀,F,ρ1,S1,δ,Ω1,R1,.error x,_,e2,trivial⟩
 ·exact⟨ρ₀,S₀,H₀,F,ρ,S,δ,Ω,R,.error d,_,e1,trivial⟩
noncomputable def keyT(p:List Int×D):D:=.tup (p.1.map .int)
noncomputable def jmg(xs:List D):MS (List D):=fun Ω=>match xs with
 | [.obj n]=>match Ω[n]? with
  | some (.dct kvs)=>match jfl (kvs.map keyT) with
   | some ks=>if okK ks=true∧(kvs.all fun p=>decide (p.1.length=2))=true then some (.ok (je1 (kvs.map keyT)),Ω) else none
   | none=>none
  | _=>none
 | _=>none
inductive SortI2(xs:List D)(Ω Ω':Sto)(r:Except XD (List D)):Prop
 | mk (n:Nat) (kvs:List (List Int×D)) (ks:List (Int×Int)) (h1:xs=[.obj n]) (h2:Ω[n]? = some (.dct kvs)) (h3:jfl (kvs.map keyT)=some ks) (h4:okK ks=true) (h5:kvs.map (·.1)=ks.map fun q=>[q.1,q.2]) (h6:r=.ok (je1 (kvs.map keyT))) (h7:Ω'=Ω)
theorem jhd:∀ {kvs:List (List Int×D)} {ks:List (Int×Int)},jfl (kvs.map keyT)=some ks→(kvs.all fun p=>decide (p.1.length=2))=true→kvs.map (·.1)=ks.map fun q=>[q.1,q.2]
 | [],ks,h,_=>by cases h;rfl
 | p::kvs,ks,h,h2=>by
  rw[List.all_cons,Bool.and_eq_true,decide_eq_true_eq] at h2
  rw[List.map_cons] at h
  unfold jfl at h
  cases f1:keyD (keyT p) with
  | none=>rw[f1] at h;cases h
  | some q =>
   cases f2:jfl (kvs.map keyT) with
   | none=>rw[f1,f2] at h;cases h
   | some qs =>
    rw[f1,f2] at h
    cases h
    rw[List.map_cons,List.map_cons,jhd f2 h2.2]
    congr 1
    obtain⟨p1,p2⟩:=p
    match p1,h2.1 with
    | [x,y],_=>cases f1;rfl
theorem jk7{xs:List D}{Ω Ω':Sto}{r:Except XD (List D)}(h:jmg xs Ω=some (r,Ω')):SortI2 xs Ω Ω' r:=by
 unfold jmg at h
 split at h
 ·rename_i n
  split at h
  ·rename_i kvs hn
   split at h
   ·rename_i ks hk
    split at h
    ·rename_i hh
     cases h
     exact⟨n,kvs,ks,rfl,hn,hk,hh.1,jhd hk hh.2,rfl,rfl⟩
    ·cases h
   ·cases h
  ·cases h
 ·cases h
theorem jnh{fl:DSt→MS (List D)}{g:List D→MS D}{σ:St}{H:Hp}{Q:VK}(h:tE X.K X.mg O (fun δ=>(fl δ).b fun xs=>(jmg xs).b g) σ H Q)
  (fin:∀ {ρ₀ ρ:Rho} {S₀ S F:Addr→Bool} {H₀ H2:Hp} {δ:DSt} {Ω Ω':Sto} {ds:List D} {vs:List V} {r:Except XD D} {l:Addr} {ρi:Rho} {Si:Addr→Bool},RM ρ₀ S₀ H₀ F X.K X.mg O ρ S H2 σ δ Ω→g ds Ω=some (r,Ω')→H2 l=none→Reps ρ X.K (hid H2 (fob (un F S) σ O)) ds vs→RLe ρi ρ→Same (hid H (fob (un F Si) σ O)) (hid H2 (fob (un F S) σ O)) →
   (match (generalizing:=false) r with
    | .ok d=>∀ v ρ' S' H',RM ρ₀ S₀ H₀ F X.K X.mg O ρ' S' H' σ δ Ω'→RLe ρi ρ'→Same (hid H (fob (un F Si) σ O)) (hid H' (fob (un F S') σ O))→Rep ρ' X.K (hid H' (fob (un F S') σ O)) d v→Q v H'
    | .error _=>True)→Q (.ref l) (upd H2 l (.lst vs))):tCB rSortD (tEL X.K X.mg O fl) σ H Q:=by
 obtain⟨ρ₀,S₀,H₀,F,ρ,S,δ,Ω,R,r,Ω',hf,k⟩:=h
 rcases MS.b_inv hf with ⟨xs,Ω1,e1,hf⟩|⟨x,e1,rfl⟩
 ·refine⟨ρ₀,S₀,H₀,F,ρ,S,δ,Ω,R,.ok xs,Ω1,e1,fun us ρ1 S1 H1 R1 l1 v1 r1=>?_⟩
  rcases MS.b_inv hf with ⟨ds,Ω2,e2,hf⟩|⟨x,e2,rfl⟩
  ·obtain⟨n,kvs,ks,rfl,hn,hk,ok,hp,ed,rfl⟩:=jk7 e2
   cases ed
   obtain⟨v,rfl,q⟩:=jhu r1
   obtain⟨ad,vk,rfl,t1,t2,t3,t4,t5⟩:=R1.dct hn q
   have ok':=jzj ok
   have hl:(kvs.map keyT).length=ks.length:=(jgj hk).1.symm
   refine⟨ad,vk,ks,rfl,t3,?_,ok',fun ads al ah pp pe pw l hl'=>?_⟩
   ·have e0:kvs.map (fun p=>p.1.map (Sum.inl:Int→Key))=(kvs.map (·.1)).map (List.map Sum.inl):=by rw[List.map_map];rfl
    rw[t4,e0,hp,List.map_map];rfl
   ·have hr:Reps ρ1 X.K (hid H1 (fob (un F S1) σ O)) (kvs.map keyT) (ads.map V.ref):=by
     have ek:kvs.map keyT=ks.map fun q=>D.tup [.int q.1,.int q.2]:=by
      have:kvs.map keyT=(kvs.map (·.1)).map fun l=>D.tup (l.map .int):=by rw[List.map_map];rfl
      rw[this,hp,List.map_map];rfl
     rw[ek]
     have key:∀ (ads:List Addr) (ks:List (Int×Int)),ads.length=ks.length→(∀ (i:Nat) ad q,ads[i]? = some ad→ks[i]? = some q→H1 ad=some (.tup [.int q.1,.int q.2]))→Reps ρ1 X.K (hid H1 (fob (un F S1) σ O)) (ks.map fun q=>D.tup [.int q.1,.int q.2]) (ads.map V.ref):=by
      intro ads
      induction ads with
      | nil=>intro ks h _;cases ks with
       | nil=>exact Reps.nil
       | cons _ _=>cases h
      | cons b ads ih=>intro ks h hh;cases ks with
       | nil=>cases h
       | cons q ks =>
        rw[List.map_cons,List.map_cons]
        refine Reps.cons (rep_tup.mpr ⟨b,_,rfl,SqT.of (R1.sto.tv b _ (hh 0 b q rfl rfl)),Reps.cons (rep_int.mpr rfl) (Reps.cons (rep_int.mpr rfl) Reps.nil)⟩) (ih ks (Nat.succ.inj h) fun i ad q e1 e2=>hh (i+1) ad q (by simpa using e1) (by simpa using e2))
     exact key ads ks al ah
    rw[← hl] at pe
    have hr2:=jk1 hr pp fun i hi=>List.mem_range.mp (pe.mem_iff.mp hi)
    rw[jqy hk ok' pe pw] at hr2
    exact fin R1 hf hl' hr2 l1 v1 k
  ·exact absurd (jk7 e2) (fun ⟨_,_,_,_,_,_,_,_,h,_⟩=>by cases h)
 ·exact⟨ρ₀,S₀,H₀,F,ρ,S,δ,Ω,R,.error x,_,e1,trivial⟩
noncomputable def jhm(fl:DSt→MS (List D)):DSt→MS D:=fun δ=>(fl δ).b fun xs=>(jmg xs).b fun ds=>MS.p (.lst ds)
noncomputable def juh(fl:DSt→MS (List D)):DSt→MS D:=fun δ=>(fl δ).b fun xs=>(jmg xs).b fun ds Ω=>some (.ok (.obj Ω.length),Ω++[.lst ds])
theorem jm1{fl:DSt→MS (List D)}{p:Pos}(hc:X.calm=true)(hG:Gl X "sorted")(hm:X.mg "sorted"=none)(hl:MA X O [a] fl)(he:autoParam (starEach [a] X.env=(false,eval a X.env)::starEach [] X.env) zau2._auto_1)(hpl:autoParam ((backTo pos (starEach [] X.env)).any (·.1)=false) zau2._auto_1) :
  ME X O (.Call (.Name "sorted" p) [a] [] pos) (jhm fl) :=
 fun pins s σ H Q I h=>jft (jgv hc) hG hm jj3 hl (by decide) (by decide) he hpl pins s σ H Q I (jnh h fun R e hn hr l v k=>by
  cases e
  exact k _ _ _ _ (R.mono (jal hn)) l (v.trans (jaf (jal hn))) (jdj hn (R.fresh hn) hr))
theorem jsx{fl:DSt→MS (List D)}{p:Pos}(hc:X.calm=true)(hG:Gl X "sorted")(hm:X.mg "sorted"=none)(hl:MA X O [a] fl)(he:autoParam (starEach [a] X.env=(false,eval a X.env)::starEach [] X.env) zau2._auto_1)(hpl:autoParam ((backTo pos (starEach [] X.env)).any (·.1)=false) zau2._auto_1) :
  ME X O (.Call (.Name "sorted" p) [a] [] pos) (juh fl) :=
 fun pins s σ H Q I h=>jft (jgv hc) hG hm jj3 hl (by decide) (by decide) he hpl pins s σ H Q I (jnh h fun R e hn hr l v k=>by
  cases e
  obtain⟨t1,t2,t3⟩:=R.newL hn hr
  exact k _ _ _ _ t1 (l.trans t2) (v.trans t3) (rep_obj.mpr ⟨_,by unfold addR;rw[if_pos rfl],rfl⟩))
end
end DL
namespace MyLaw
open PySem PySem.Spec L2 DL
noncomputable def top(i:Nat):Stmt:=PySem.Challenge.pw_apartbook_k34_rows_taken.main.body.getD i (.Pass ⟨0,0,0,0⟩)
noncomputable abbrev jbh:Stmt:=jd3 (top 2) 0
noncomputable abbrev jcx:Stmt:=top 5
noncomputable abbrev jbm:Stmt:=top 7
noncomputable abbrev ja9:Stmt:=top 4
noncomputable abbrev jbj:Stmt:=top 8
noncomputable abbrev jcv:Stmt:=jd3 (top 2) 6
noncomputable abbrev ja0:Stmt:=jd3 (top 2) 5
noncomputable abbrev jaz:Stmt:=jd3 (top 2) 8
noncomputable abbrev ja1:Stmt:=jd3 (top 2) 7
noncomputable abbrev jb6:Stmt:=jd3 (top 2) 1
noncomputable abbrev jb5:Stmt:=jd3 (top 2) 3
noncomputable abbrev ja8:Stmt:=jd3 (top 2) 4
noncomputable abbrev jbg:Stmt:=jd3 (top 2) 2
noncomputable abbrev jbv:Stmt:=top 12
noncomputable abbrev jbw:Stmt:=top 9
noncomputable abbrev jba:Stmt:=top 10
noncomputable abbrev jcw:Stmt:=top 11
noncomputable abbrev jk4:Stmt:=top 13
structure Txt(K:PySem.W.Frag)(mg:Str→Option Value):Prop where
 c_Log:ClsAt K mg "Log" ["held","reached","taken"]
 f_Log_init__:IniAt K mg "Log" "Log.__init__" jbh ["self","houses"]
 f_law_mix:jfx K mg "_law_mix" jcx ["_law_cell","_law_k"]
 f_law_rows:jfx K mg "_law_rows" jbm ["_law_script","_law_houses"]
 f_law_cell_at:jfx K mg "_law_cell_at" ja9 ["_law_script","_law_k"]
 f_law_order:jfx K mg "_law_order" jbj ["_law_script","_law_many"]
 f_Log_put:MetAt K mg "Log" "put" "Log.put" jcv ["self","row"]
 f_Log_can_take:MetAt K mg "Log" "can_take" "Log.can_take" ja0 ["self","row"]
 f_Log_first_held:MetAt K mg "Log" "first_held" "Log.first_held" jaz ["self"]
 f_Log_take_held:MetAt K mg "Log" "take_held" "Log.take_held" ja1 ["self"]
 f_Log_take:MetAt K mg "Log" "take" "Log.take" jb6 ["self","row"]
 f_Log_rows:MetAt K mg "Log" "rows" "Log.rows" jb5 ["self"]
 f_Log_waiting:MetAt K mg "Log" "waiting" "Log.waiting" ja8 ["self"]
 f_Log_counts:MetAt K mg "Log" "counts" "Log.counts" jbg ["self"]
 f_law_looks:jfx K mg "_law_looks" jbv ["_law_log","_law_counts","_law_taken","_law_kept"]
 f_law_fits:jfx K mg "_law_fits" jbw ["_law_counts","_law_row"]
 f_law_flushed:jfx K mg "_law_flushed" jba ["_law_counts","_law_taken","_law_kept"]
 f_law_due:jfx K mg "_law_due" jcw ["_law_counts","_law_taken","_law_kept","_law_row"]
 f_law:jfx K mg "law" jk4 ["_law_script"]
 b_all:mg "all"=none
 b_enumerate:mg "enumerate"=none
 b_isinstance:mg "isinstance"=none
 b_len:mg "len"=none
 b_list:mg "list"=none
 b_max:mg "max"=none
 b_range:mg "range"=none
 b_sorted:mg "sorted"=none
 b_tuple:mg "tuple"=none
 b_zip:mg "zip"=none
section
variable {P:Program}{w:World}{K:PySem.W.Frag}{mg:Str→Option Value}{base:Heap}
theorem jjp:FnScope ["self","houses"] ["self","houses"] (jab jbh):=⟨rfl,rfl,rfl,by decide +kernel,rfl,by decide +kernel,by decide +kernel⟩
noncomputable def jcp:DSt→MS Out:=(eSeq (ePut ["Log"] "taken" (lF (fVar 0)) (jkm (lF fNil)))
  (eSeq (ePut ["Log"] "reached" (lF (fVar 0)) (jh4 (lF (jae (fC (.int 0)) fNil)) (lF (fVar 1))))
  (ePut ["Log"] "held" (lF (fVar 0)) jkl)))
noncomputable def jb4:List D→MS D:=mirE 2 2 jcp
theorem jgs(T:Txt K mg)(f:Addr)(cdv:Value)(A:Around)(outer:List Env)(s:Shared)(H:Hp)(E:XK)(hr:Room 1 (A.deeper (PyProof.Rows.envOfC "Log.__init__" (jab jbh) s.heap.objs.size f cdv))) :
  MSs (cxOf CX0 P w K mg base ["self","houses"] "Log.__init__" (jab jbh) f cdv A outer s H E).nox [] [] [] (jak jbh) jcp :=
 (jad (jqg (T.c_Log.is (by decide +kernel)) (jac (jaa 0)) (jlw (jaq jam)))
  (jad (jqg (T.c_Log.is (by decide +kernel)) (jac (jaa 0)) (jjf (jaq (jah jai jam)) (jac (jaa 1))))
  (jat (jqg (T.c_Log.is (by decide +kernel)) (jac (jaa 0)) jlv))))
theorem jfs(T:Txt K mg):IniE P w K mg base 2 "Log" 2 jb4:=jvs T.f_Log_init__ jjp (jgs T)
theorem sc_law_mix:FnScope ["_law_cell","_law_k","_law_number"] ["_law_cell","_law_k"] (jab jcx):=⟨rfl,rfl,rfl,by decide +kernel,rfl,by decide +kernel,by decide +kernel⟩
noncomputable def jg9:DSt→M Out:=(gSeq (gSet 2 (f2 gMod (f2 jg8 (f2 gCat (f2 gCat (f2 gMod (fVar 0) (fC (.int 1000003))) (f2 jg8 (f2 jg8 (fVar 1) (fVar 1)) (fC (.int 7919)))) (fVar 1)) (fC (.int 48271))) (fC (.int 2147483629))))
  (gRet (f2 jcm (f2 gMod (f2 jg8 (fVar 2) (fVar 2)) (fC (.int 2147483587))) (fC (.int 7)))))
noncomputable def jbu:List D→M D:=mir 2 3 jg9
theorem jj2(T:Txt K mg)(f:Addr)(cdv:Value)(A:Around)(outer:List Env)(s:Shared)(H:Hp)(E:XK)(hr:Room 1 (A.deeper (PyProof.Rows.envOfC "_law_mix" (jab jcx) s.heap.objs.size f cdv))) :
  DSs (cxOf CX0 P w K mg base ["_law_cell","_law_k","_law_number"] "_law_mix" (jab jcx) f cdv A outer s H E).nox [] [] [] E (jak jcx) jg9 :=
 (jdp (jdo (i:=2) sc_law_mix.nd (ja6 jcd jbq (ja6 jjk jgk (ja6 jb1 jb2 (ja6 jb1 jb2 (ja6 jcd jbq (jaa 0) jai) (ja6 jjk jgk (ja6 jjk jgk (jaa 1) (jaa 1)) jai)) (jaa 1)) jai) jai))
  (je8 (jb3 (ja6 jc9 jda (ja6 jcd jbq (ja6 jjk jgk (jaa 2) (jaa 2)) jai) jai))))
theorem jf2(T:Txt K mg):Cal P w K mg base 2 "_law_mix" 2 jbu:=jox T.f_law_mix sc_law_mix (jj2 T)
theorem sc_law_rows:FnScope ["_law_script","_law_houses","_law_own","_law_rows_here","_law_at","_law_cell","_law_drawn","_law_house","_law_other","_law_deed"] ["_law_script","_law_houses"] (jab jbm):=⟨rfl,rfl,rfl,by decide +kernel,rfl,by decide +kernel,by decide +kernel⟩
noncomputable def jbs:DSt→MS D:=(jh4 (lF (jae (fC (.int 0)) fNil)) (lF (fVar 1)))
noncomputable def jcf:DSt→M D:=(fL kMax (jae (fVar 0) (jae (fVar 1) fNil)))
noncomputable def jce:DSt→MS Out:=(eSeq (lF (gSet 6 (jeh jbu (jae (fVar 5) (jae (f2 gCat (fC (.int 400)) (fVar 4)) fNil)))))
  (eSeq (lF (gSet 7 (f2 gMod (fVar 6) (fVar 1))))
  (eSeq (eIf (lF (t2 gEq (f2 gMod (f2 jcm (fVar 6) (fC (.int 4))) (fC (.int 3))) (fC (.int 0)))) (eSeq (lF (gSet 8 (f2 gMod (f2 gCat (f2 gCat (fVar 7) (fC (.int 1))) (f2 gMod (f2 jcm (fVar 6) (fC (.int 12))) (f2 gSub (fVar 1) (fC (.int 1))))) (fVar 1))))
  (eSeq (jkd (lF (fVar 2)) (lF (fVar 7)) (jjd 2 [] (jar (mIxL (lF (fVar 2)) (lF (fVar 7))) (jar (mIxL (lF (fVar 2)) (lF (fVar 8))) (lF fNil))) (jcc 0 1) tYes jcf))
  (lF gCnt))) eNx)
  (eSeq (lF (gSet 9 (fL jeb (jae (fC (.str "do")) (jae (f2 gMod (f2 jcm (fVar 6) (fC (.int 12))) (fC (.int 3))) (jae (f2 gSub (f2 gMod (f2 jcm (fVar 6) (fC (.int 36))) (fC (.int 9))) (fC (.int 2))) fNil))))))
  (eSeq (lF (gIf (t2 gEq (f2 gMod (f2 jcm (fVar 6) (fC (.int 400))) (fC (.int 4))) (fC (.int 1))) (gSet 9 (fL jeb (jae (fC (.str "give")) (jae (f2 gMod (f2 jcm (fVar 6) (fC (.int 12))) (fC (.int 3))) (jae (f2 gMod (f2 gCat (fVar 7) (fC (.int 1))) (fVar 1)) (jae (f2 gCat (fC (.int 1)) (f2 gMod (f2 jcm (fVar 6) (fC (.int 36))) (fC (.int 9)))) fNil)))))) gNx))
  (eSeq (eApp 3 (mL jeb (jar (lF (fVar 7)) (jar (mIxL (mIxL (lF (fVar 2)) (lF (fVar 7))) (lF (fVar 7))) (jar (fun δ=>MS.b ((jar (mIxL (lF (fVar 2)) (lF (fVar 7))) (lF fNil)) δ) tupS) (lF (jae (fVar 9) fNil)))))))
  (jkd (mIxL (lF (fVar 2)) (lF (fVar 7))) (lF (fVar 7)) (m2 gCat (mIxL (mIxL (lF (fVar 2)) (lF (fVar 7))) (lF (fVar 7))) (lF (fC (.int 1)))))))))))
noncomputable def jdy:DSt→MS Out:=(eSeq (eSet 2 (jkk 1 [("_law_houses",1)] (lF (jha jcu (jae (fVar 1) fNil))) (DL.gName 0) jbs))
  (eSeq (lF (gSet 3 (fL jcn fNil)))
  (eSeq (eFor (lF (jha jfg (jae (fSl (fVar 0) (jec (fC (.int 2))) (jec (fC (.int 40)))) fNil))) (jcc 4 5) jce)
  (lF (gRet (fVar 3))))))
noncomputable def jev:List D→MS D:=mirE 2 10 jdy
theorem ji1(T:Txt K mg)(f:Addr)(cdv:Value)(A:Around)(outer:List Env)(s:Shared)(H:Hp)(E:XK)(hr:Room 2 (A.deeper (PyProof.Rows.envOfC "_law_rows" (jab jbm) s.heap.objs.size f cdv))) :
  MSs (cxOf CX0 P w K mg base ["_law_script","_law_houses","_law_own","_law_rows_here","_law_at","_law_cell","_law_drawn","_law_house","_law_other","_law_deed"] "_law_rows" (jab jbm) f cdv A outer s H E).nox [] [] [] (jak jbm) jdy :=
 (jad (js2 (i:=2) sc_law_rows.nd (own:=["_law_house"]) (caps:=[("_law_houses",1)]) rfl (jgw (N:=["_law_script","_law_houses","_law_own","_law_rows_here","_law_at","_law_cell","_law_drawn","_law_house","_law_other","_law_deed"]) (osc:=jab jbm) rfl rfl rfl (by decide +kernel)) (jlz (jmr rfl T.b_range (jah (jaa 1) jam))) (fun _ _ _ _=>(jg0 (i:=0) (show (["_law_house","_law_houses"]:List Str).Nodup from by decide +kernel))) (fun _ _ _ _=>(jjf (jaq (jah jai jam)) (jac (jaa 1)))))
  (jad (jaw (jx6 (i:=3) sc_law_rows.nd jam))
  (jad (jqh PassesOwn.never rfl (jlz (jvf rfl T.b_enumerate (jah (ji7 (jaa 0) (jg2 jai) (jg2 jai)) jam))) (jg1 (i:=4) (j:=5) rfl sc_law_rows.nd) (jad (jaw (jdo (i:=6) sc_law_rows.nd (jee (jf2 T) (hr.mono (by decide)) (jah (jaa 5) (jah (ja6 jb1 jb2 jai (jaa 4)) jam)))))
  (jad (jaw (jdo (i:=7) sc_law_rows.nd (ja6 jcd jbq (jaa 6) (jaa 1))))
  (jad (jfn (jjh (jf7 (jkq (hu30 hr)) jks (ja6 jcd jbq (ja6 jc9 jda (jaa 6) jai) jai) jai (jct _))) (jad (jaw (jdo (i:=8) sc_law_rows.nd (ja6 jcd jbq (ja6 jb1 jb2 (ja6 jb1 jb2 (jaa 7) jai) (ja6 jcd jbq (ja6 jc9 jda (jaa 6) jai) (ja6 jul jqs (jaa 1) jai))) (jaa 1))))
  (jad (jjg (jac (jaa 2)) (jac (jaa 7)) (jqc (own:=["_law_one","_law_two"]) (caps:=[]) rfl (jgw (N:=["_law_script","_law_houses","_law_own","_law_rows_here","_law_at","_law_cell","_law_drawn","_law_house","_law_other","_law_deed"]) (osc:=jab jbm) rfl rfl rfl (by decide +kernel)) rfl T.b_zip (jap (jdr (jac (jaa 2)) (jac (jaa 7))) (jap (jdr (jac (jaa 2)) (jac (jaa 8))) (jaq jam))) (fun _ _ _ _=>(jg1 (i:=0) (j:=1) rfl (show (["_law_one","_law_two"]:List Str).Nodup from by decide +kernel))) (fun _ _ _ _=>jo6) (fun _ _ _ _=>(jgi (jo0 rfl) ju9 rfl T.b_max jxv (jah (jaa 0) (jah (jaa 1) jam))))))
  (jat (jaw jx4)))) jcb)
  (jad (jaw (jdo (i:=9) sc_law_rows.nd (jo9 (jah jf6 (jah (ja6 jcd jbq (ja6 jc9 jda (jaa 6) jai) jai) (jah (ja6 jul jqs (ja6 jcd jbq (ja6 jc9 jda (jaa 6) jai) jai) jai) jam))))))
  (jad (jaw (jvi (jf7 (jkq (hu30 hr)) jks (ja6 jcd jbq (ja6 jc9 jda (jaa 6) jai) jai) jai (jct _)) (je8 (jdo (i:=9) sc_law_rows.nd (jo9 (jah jf6 (jah (ja6 jcd jbq (ja6 jc9 jda (jaa 6) jai) jai) (jah (ja6 jcd jbq (ja6 jb1 jb2 (jaa 7) jai) (jaa 1)) (jah (ja6 jb1 jb2 jai (ja6 jcd jbq (ja6 jc9 jda (jaa 6) jai) jai)) jam))))))) jll))
  (jad (jza (i:=3) rfl (jy8 (jap (jac (jaa 7)) (jap (jdr (jdr (jac (jaa 2)) (jac (jaa 7))) (jac (jaa 7))) (jap (jlx rfl T.b_tuple (jap (jdr (jac (jaa 2)) (jac (jaa 7))) (jaq jam))) (jaq (jah (jaa 9) jam)))))))
  (jat (jjg (jdr (jac (jaa 2)) (jac (jaa 7))) (jac (jaa 7)) (jv7 jb1 jb2 (jdr (jdr (jac (jaa 2)) (jac (jaa 7))) (jac (jaa 7))) (jac jai)))))))))))
  (jwb (O':=[]) (by decide) (jat (jaw (jb3 (jaa 3))))))))
theorem jl8(T:Txt K mg):CalE P w K mg base 3 "_law_rows" 2 jev:=jgt T.f_law_rows sc_law_rows (ji1 T)
theorem jh9:FnScope ["_law_script","_law_k"] ["_law_script","_law_k"] (jab ja9):=⟨rfl,rfl,rfl,by decide +kernel,rfl,by decide +kernel,by decide +kernel⟩
noncomputable def jd5:DSt→M Out:=(gSeq (gIf (t2 gLt (fVar 1) (fL kLen (jae (fVar 0) fNil))) (gRet (f2 gIx (fVar 0) (fVar 1))) gNx)
  (gRet (fC (.int 0))))
noncomputable def jau:List D→M D:=mir 2 2 jd5
theorem jgb(T:Txt K mg)(f:Addr)(cdv:Value)(A:Around)(outer:List Env)(s:Shared)(H:Hp)(E:XK)(hr:Room 1 (A.deeper (PyProof.Rows.envOfC "_law_cell_at" (jab ja9) s.heap.objs.size f cdv))) :
  DSs (cxOf CX0 P w K mg base ["_law_script","_law_k"] "_law_cell_at" (jab ja9) f cdv A outer s H E).nox [] [] [] E (jak ja9) jd5 :=
 (jdp (jvi (jf7 jqn jhr (jaa 1) (jgi jgu jli rfl T.b_len jov (jah (jaa 0) jam)) (jct _)) (je8 (jb3 (jde jbd jbe (jaa 0) (jaa 1)))) jll)
  (je8 (jb3 jai)))
theorem jcj(T:Txt K mg):Cal P w K mg base 2 "_law_cell_at" 2 jau:=jox T.f_law_cell_at jh9 (jgb T)
theorem sc_law_order:FnScope ["_law_script","_law_many","_law_places","_law_at","_law_other","_law_kept","_law_twice"] ["_law_script","_law_many"] (jab jbj):=⟨rfl,rfl,rfl,by decide +kernel,rfl,by decide +kernel,by decide +kernel⟩
noncomputable def jdm:DSt→M Out:=(gSeq (gSet 4 (f2 gMod (jeh jbu (jae (jeh jau (jae (fVar 0) (jae (f2 gCat (fC (.int 40)) (f2 gMod (fVar 3) (fC (.int 20)))) fNil))) (jae (f2 gCat (fC (.int 500)) (fVar 3)) fNil))) (fVar 1)))
  (gSeq (gSet 5 (f2 gIx (fVar 2) (fVar 3)))
  (gSeq (jif 2 (fVar 3) (f2 gIx (fVar 2) (fVar 4)))
  (jif 2 (fVar 4) (fVar 5)))))
noncomputable def jed:DSt→M D:=(fVar 0)
noncomputable def jdg:DSt→M Out:=(gSeq (gSet 2 (fL jsk (jae (fVar 1) fNil)))
  (gSeq (gFor (jha jcu (jae (fVar 1) fNil)) (DL.gName 3) jdm)
  (gSeq (gSet 6 (jnt 1 [("_law_script",0)] (jnv (fVar 2)) (DL.gName 0) (t2 gEq (f2 gMod (jeh jbu (jae (jeh jau (jae (fVar 1) (jae (fC (.int 61)) fNil))) (jae (f2 gCat (fC (.int 600)) (fVar 0)) fNil))) (fC (.int 4))) (fC (.int 1))) jed))
  (gRet (f2 gCat (fVar 2) (fVar 6))))))
noncomputable def jd6:List D→M D:=mir 2 7 jdg
theorem jh1(T:Txt K mg)(f:Addr)(cdv:Value)(A:Around)(outer:List Env)(s:Shared)(H:Hp)(E:XK)(hr:Room 2 (A.deeper (PyProof.Rows.envOfC "_law_order" (jab jbj) s.heap.objs.size f cdv))) :
  DSs (cxOf CX0 P w K mg base ["_law_script","_law_many","_law_places","_law_at","_law_other","_law_kept","_law_twice"] "_law_order" (jab jbj) f cdv A outer s H E).nox [] [] [] E (jak jbj) jdg :=
 (jdp (jr3 (i:=2) sc_law_order.nd rfl rfl T.b_list rfl T.b_range (jah (jaa 1) jam))
  (jdp (jx5 PassesOwn.never rfl (jmr rfl T.b_range (jah (jaa 1) jam)) (jg0 (i:=3) sc_law_order.nd) (jdp (jdo (i:=4) sc_law_order.nd (ja6 jcd jbq (jee (jf2 T) (hr.mono (by decide)) (jah (jee (jcj T) (hr.mono (by decide)) (jah (jaa 0) (jah (ja6 jb1 jb2 jai (ja6 jcd jbq (jaa 3) jai)) jam))) (jah (ja6 jb1 jb2 jai (jaa 3)) jam))) (jaa 1)))
  (jdp (jdo (i:=5) sc_law_order.nd (jt5 2 rfl (jaa 3)))
  (jdp (jmt (i:=2) rfl (jaa 3) (jt5 2 rfl (jaa 4)))
  (je8 (jmt (i:=2) rfl (jaa 4) (jaa 5)))))))
  (jvk (O':=[]) (by decide) (jdp (jvj (i:=6) sc_law_order.nd (own:=["_law_place"]) (caps:=[("_law_script",0)]) rfl (jgw (N:=["_law_script","_law_many","_law_places","_law_at","_law_other","_law_kept","_law_twice"]) (osc:=jab jbj) rfl rfl rfl (by decide +kernel)) (jt7 (jaa 2)) (fun _ _ _ _=>(jg0 (i:=0) (show (["_law_place","_law_script"]:List Str).Nodup from by decide +kernel))) (fun _ _ _ _=>(jt3 (jf7 (jkq (hu30 hr)) jks (ja6 jcd jbq (jee (jf2 T) (hr.mono (by decide)) (jah (jee (jcj T) (hr.mono (by decide)) (jah (jaa 1) (jah jai jam))) (jah (ja6 jb1 jb2 jai (jaa 0)) jam))) jai) jai (jct _)))) (fun _ _ _ _=>(jaa 0)))
  (je8 (jb3 (ja6 jb1 jb2 (jaa 2) (jaa 6))))))))
theorem jkp(T:Txt K mg):Cal P w K mg base 3 "_law_order" 2 jd6:=jox T.f_law_order sc_law_order (jh1 T)
theorem joe:FnScope ["self","row"] ["self","row"] (jab jcv):=⟨rfl,rfl,rfl,by decide +kernel,rfl,by decide +kernel,by decide +kernel⟩
noncomputable def jei:DSt→MS Out:=(eSeq (jff (jfz (mGet ["Log"] "taken" (lF (fVar 0))) (lF (fVar 1))))
  (jpa (mGet ["Log"] "reached" (lF (fVar 0))) (lF (f2 gIx (fVar 1) (fC (.int 0)))) (lF (fC (.int 1)))))
noncomputable def jej:List D→MS D:=mirE 2 2 jei
theorem jj0(T:Txt K mg)(f:Addr)(cdv:Value)(A:Around)(outer:List Env)(s:Shared)(H:Hp)(E:XK)(hr:Room 1 (A.deeper (PyProof.Rows.envOfC "Log.put" (jab jcv) s.heap.objs.size f cdv))) :
  MSs (cxOf CX0 P w K mg base ["self","row"] "Log.put" (jab jcv) f cdv A outer s H E).nox [] [] [] (jak jcv) jei :=
 (jad (jdi (jje (jd9 (T.c_Log.is (by decide +kernel)) (jac (jaa 0))) (jac (jaa 1))))
  (jat (jwa (jd9 (T.c_Log.is (by decide +kernel)) (jac (jaa 0))) (jac (jde jbd jbe (jaa 1) jai)) (jac jai))))
theorem jin(T:Txt K mg):MetE P w K mg base 2 "Log" "put" 2 jej:=jel T.f_Log_put joe (jj0 T)
theorem jhw:FnScope ["self","row"] ["self","row"] (jab ja0):=⟨rfl,rfl,rfl,by decide +kernel,rfl,by decide +kernel,by decide +kernel⟩
noncomputable def jbr:DSt→M D:=(f2 gLe (fVar 0) (fVar 1))
noncomputable def jby:DSt→MS Out:=(eSeq (eIf (mB (m2 gNe (lF (f2 gIx (fVar 1) (fC (.int 1)))) (mIxL (mGet ["Log"] "reached" (lF (fVar 0))) (lF (f2 gIx (fVar 1) (fC (.int 0))))))) (lF (gRet (fC (.bl false)))) eNx)
  (eRet (mL kAll (jar (jp5 2 [] (jar (lF (f2 gIx (fVar 1) (fC (.int 2)))) (jar (mGet ["Log"] "reached" (lF (fVar 0))) (lF fNil))) (jcc 0 1) tYes jbr) (lF fNil)))))
noncomputable def ja4:List D→MS D:=mirE 2 2 jby
theorem jfy(T:Txt K mg)(f:Addr)(cdv:Value)(A:Around)(outer:List Env)(s:Shared)(H:Hp)(E:XK)(hr:Room 1 (A.deeper (PyProof.Rows.envOfC "Log.can_take" (jab ja0) s.heap.objs.size f cdv))) :
  MSs (cxOf CX0 P w K mg base ["self","row"] "Log.can_take" (jab ja0) f cdv A outer s H E).nox [] [] [] (jak ja0) jby :=
 (jad (jfn (jik (jkr (hu30 hr)) jm5 (jac (jde jbd jbe (jaa 1) jai)) (jdr (jd9 (T.c_Log.is (by decide +kernel)) (jac (jaa 0))) (jac (jde jbd jbe (jaa 1) jai))) (jct _)) (jat (jaw (jb3 jh2))) jcb)
  (jat (jij (jst (joy rfl) ju8 rfl T.b_all jxu (jap (jsu (own:=["cause","count"]) (caps:=[]) rfl (jgw (N:=["self","row"]) (osc:=jab ja0) rfl rfl rfl (by decide +kernel)) rfl T.b_zip (jap (jac (jde jbd jbe (jaa 1) jai)) (jap (jd9 (T.c_Log.is (by decide +kernel)) (jac (jaa 0))) (jaq jam))) (fun _ _ _ _=>(jg1 (i:=0) (j:=1) rfl (show (["cause","count"]:List Str).Nodup from by decide +kernel))) (fun _ _ _ _=>jo6) (fun _ _ _ _=>(jt4 jzm jhr (jaa 0) (jaa 1) (jct _)))) (jaq jam))))))
theorem jem(T:Txt K mg):MetE P w K mg base 2 "Log" "can_take" 2 ja4:=jel T.f_Log_can_take jhw (jfy T)
theorem sc_Log_first_held:FnScope ["self","house","count","row"] ["self"] (jab jaz):=⟨rfl,rfl,rfl,by decide +kernel,rfl,by decide +kernel,by decide +kernel⟩
noncomputable def jao:DSt→MS Out:=(eSeq (eSet 3 (jsq (mGet ["Log"] "held" (lF (fVar 0))) (lF (jae (fVar 1) (jae (fVar 2) fNil)))))
  (eIf (mAnd (lF (t2 jmv (fVar 3) (fC .non))) (mTru (jdh "Log" "can_take" ja4 (lF (fVar 0)) (lF (jae (fVar 3) fNil))))) (lF (gRet (fVar 3))) eNx))
noncomputable def ja2:DSt→MS Out:=(eSeq (jr5 kEn (jar (mGet ["Log"] "reached" (lF (fVar 0))) (lF fNil)) (jcc 1 2) jao FUEL)
  (lF (gRet (fC .non))))
noncomputable def jbk:List D→MS D:=mirE 1 4 ja2
theorem je6(T:Txt K mg)(f:Addr)(cdv:Value)(A:Around)(outer:List Env)(s:Shared)(H:Hp)(E:XK)(hr:Room 2 (A.deeper (PyProof.Rows.envOfC "Log.first_held" (jab jaz) s.heap.objs.size f cdv))) :
  MSs (cxOf CX0 P w K mg base ["self","house","count","row"] "Log.first_held" (jab jaz) f cdv A outer s H E).nox [] [] [] (jak jaz) ja2 :=
 (jad (js0 (fuel:=FUEL) PassesOwn.never rfl rfl T.b_enumerate (jap (jd9 (T.c_Log.is (by decide +kernel)) (jac (jaa 0))) (jaq jam)) (jg1 (i:=1) (j:=2) rfl sc_Log_first_held.nd) (jad (je3 (i:=3) sc_Log_first_held.nd (jv4 (Nat.lt_of_le_of_lt (Nat.add_le_add_left (by decide) _) (hu30 hr)) (jd9 (T.c_Log.is (by decide +kernel)) (jac (jaa 0))) (jaq (jah (jaa 1) (jah (jaa 2) jam)))))
  (jat (jfn (MW.mt (jzd (jjh (jf7 jqq jkt (jaa 3) jo8 (jct _))) (jwc (jho (jhn (jem T) (hr.mono (by decide)) (jac (jaa 0)) (jaq (jah (jaa 3) jam))))))) (jat (jaw (jb3 (jaa 3)))) jcb))))
  (jat (jaw (jb3 jo8))))
theorem jd1(T:Txt K mg):MetE P w K mg base 3 "Log" "first_held" 1 jbk:=jel T.f_Log_first_held sc_Log_first_held (je6 T)
theorem sc_Log_take_held:FnScope ["self","row"] ["self"] (jab ja1):=⟨rfl,rfl,rfl,by decide +kernel,rfl,by decide +kernel,by decide +kernel⟩
noncomputable def jc0:DSt→MS Bool:=(lF (t2 jmv (fVar 1) (fC .non)))
noncomputable def jbz:DSt→MS Out:=(eSeq (jff (jsr (mGet ["Log"] "held" (lF (fVar 0))) (lF (jae (f2 gIx (fVar 1) (fC (.int 0))) (jae (f2 gIx (fVar 1) (fC (.int 1))) fNil)))))
  (eSeq (jff (jdh "Log" "put" jej (lF (fVar 0)) (lF (jae (fVar 1) fNil))))
  (eSet 1 (jdh "Log" "first_held" jbk (lF (fVar 0)) (lF fNil)))))
noncomputable def jbt:DSt→MS Out:=(eSeq (eSet 1 (jdh "Log" "first_held" jbk (lF (fVar 0)) (lF fNil)))
  (jdl jc0 jbz FUEL))
noncomputable def jb9:List D→MS D:=mirE 1 2 jbt
theorem jfd(T:Txt K mg)(f:Addr)(cdv:Value)(A:Around)(outer:List Env)(s:Shared)(H:Hp)(E:XK)(hr:Room 3 (A.deeper (PyProof.Rows.envOfC "Log.take_held" (jab ja1) s.heap.objs.size f cdv))) :
  MSs (cxOf CX0 P w K mg base ["self","row"] "Log.take_held" (jab ja1) f cdv A outer s H E).nox [] [] [] (jak ja1) jbt :=
 (jad (je3 (i:=1) sc_Log_take_held.nd (jew (jd1 T) (hr.mono (by decide)) (jac (jaa 0))))
  (jat (jm3 (fuel:=FUEL) PassesOwn.never (jjh (jf7 jqq jkt (jaa 1) jo8 (jct _))) (jad (jdi (jv8 (Nat.lt_of_le_of_lt (Nat.add_le_add_left (by decide) _) (hu30 hr)) (jd9 (T.c_Log.is (by decide +kernel)) (jac (jaa 0))) (jaq (jah (jde jbd jbe (jaa 1) jai) (jah (jde jbd jbe (jaa 1) jai) jam)))))
  (jad (jdi (jhn (jin T) (hr.mono (by decide)) (jac (jaa 0)) (jaq (jah (jaa 1) jam))))
  (jat (je3 (i:=1) sc_Log_take_held.nd (jew (jd1 T) (hr.mono (by decide)) (jac (jaa 0))))))))))
theorem jgf(T:Txt K mg):MetE P w K mg base 4 "Log" "take_held" 1 jb9:=jel T.f_Log_take_held sc_Log_take_held (jfd T)
theorem jme:FnScope ["self","row"] ["self","row"] (jab jb6):=⟨rfl,rfl,rfl,by decide +kernel,rfl,by decide +kernel,by decide +kernel⟩
noncomputable def jcg:DSt→MS Out:=(eSeq (eIf (mB (m2 gLt (lF (f2 gIx (fVar 1) (fC (.int 1)))) (mIxL (mGet ["Log"] "reached" (lF (fVar 0))) (lF (f2 gIx (fVar 1) (fC (.int 0))))))) (lF (gRet (fC (.str "known")))) eNx)
  (eSeq (eIf (mNot (mTru (jdh "Log" "can_take" ja4 (lF (fVar 0)) (lF (jae (fVar 1) fNil))))) (eSeq (jff (mSdD (mGet ["Log"] "held" (lF (fVar 0))) (lF (jae (f2 gIx (fVar 1) (fC (.int 0))) (jae (f2 gIx (fVar 1) (fC (.int 1))) fNil))) (lF (fVar 1))))
  (lF (gRet (fC (.str "waits"))))) eNx)
  (eSeq (jff (jdh "Log" "put" jej (lF (fVar 0)) (lF (jae (fVar 1) fNil))))
  (eSeq (jff (jdh "Log" "take_held" jb9 (lF (fVar 0)) (lF fNil)))
  (lF (gRet (fC (.str "taken"))))))))
noncomputable def jdb:List D→MS D:=mirE 2 2 jcg
theorem jiz(T:Txt K mg)(f:Addr)(cdv:Value)(A:Around)(outer:List Env)(s:Shared)(H:Hp)(E:XK)(hr:Room 4 (A.deeper (PyProof.Rows.envOfC "Log.take" (jab jb6) s.heap.objs.size f cdv))) :
  MSs (cxOf CX0 P w K mg base ["self","row"] "Log.take" (jab jb6) f cdv A outer s H E).nox [] [] [] (jak jb6) jcg :=
 (jad (jfn (jik jqn jhr (jac (jde jbd jbe (jaa 1) jai)) (jdr (jd9 (T.c_Log.is (by decide +kernel)) (jac (jaa 0))) (jac (jde jbd jbe (jaa 1) jai))) (jct _)) (jat (jaw (jb3 jf6))) jcb)
  (jad (jfn (jkn (jho (jhn (jem T) (hr.mono (by decide)) (jac (jaa 0)) (jaq (jah (jaa 1) jam))))) (jad (jdi (jy7 (Nat.lt_of_le_of_lt (Nat.add_le_add_left (by decide) _) (hu30 hr)) (jd9 (T.c_Log.is (by decide +kernel)) (jac (jaa 0))) (jaq (jah (jde jbd jbe (jaa 1) jai) (jah (jde jbd jbe (jaa 1) jai) jam))) (jac (jaa 1))))
  (jat (jaw (jb3 jf6)))) jcb)
  (jad (jdi (jhn (jin T) (hr.mono (by decide)) (jac (jaa 0)) (jaq (jah (jaa 1) jam))))
  (jad (jdi (jew (jgf T) (hr.mono (by decide)) (jac (jaa 0))))
  (jat (jaw (jb3 jf6)))))))
theorem jl7(T:Txt K mg):MetE P w K mg base 5 "Log" "take" 2 jdb:=jel T.f_Log_take jme (jiz T)
theorem jmd:FnScope ["self"] ["self"] (jab jb5):=⟨rfl,rfl,rfl,by decide +kernel,rfl,by decide +kernel,by decide +kernel⟩
noncomputable def jdw:DSt→MS Out:=(eRet (fun δ=>MS.b ((jar (mGet ["Log"] "taken" (lF (fVar 0))) (lF fNil)) δ) jp1))
noncomputable def jdz:List D→MS D:=mirE 1 1 jdw
theorem jiy(T:Txt K mg)(f:Addr)(cdv:Value)(A:Around)(outer:List Env)(s:Shared)(H:Hp)(E:XK)(hr:Room 1 (A.deeper (PyProof.Rows.envOfC "Log.rows" (jab jb5) s.heap.objs.size f cdv))) :
  MSs (cxOf CX0 P w K mg base ["self"] "Log.rows" (jab jb5) f cdv A outer s H E).nox [] [] [] (jak jb5) jdw :=
 (jat (jij (jsw rfl T.b_list (jap (jd9 (T.c_Log.is (by decide +kernel)) (jac (jaa 0))) (jaq jam)))))
theorem jl6(T:Txt K mg):MetE P w K mg base 2 "Log" "rows" 1 jdz:=jel T.f_Log_rows jmd (jiy T)
theorem jh8:FnScope ["self"] ["self"] (jab ja8):=⟨rfl,rfl,rfl,by decide +kernel,rfl,by decide +kernel,by decide +kernel⟩
noncomputable def jb7:DSt→MS Out:=(eRet (juh (jar (mGet ["Log"] "held" (lF (fVar 0))) (lF fNil))))
noncomputable def jca:List D→MS D:=mirE 1 1 jb7
theorem jga(T:Txt K mg)(f:Addr)(cdv:Value)(A:Around)(outer:List Env)(s:Shared)(H:Hp)(E:XK)(hr:Room 1 (A.deeper (PyProof.Rows.envOfC "Log.waiting" (jab ja8) s.heap.objs.size f cdv))) :
  MSs (cxOf CX0 P w K mg base ["self"] "Log.waiting" (jab ja8) f cdv A outer s H E).nox [] [] [] (jak ja8) jb7 :=
 (jat (jij (jsx rfl rfl T.b_sorted (jap (jd9 (T.c_Log.is (by decide +kernel)) (jac (jaa 0))) (jaq jam)))))
theorem jh5(T:Txt K mg):MetE P w K mg base 2 "Log" "waiting" 1 jca:=jel T.f_Log_waiting jh8 (jga T)
theorem jjo:FnScope ["self"] ["self"] (jab jbg):=⟨rfl,rfl,rfl,by decide +kernel,rfl,by decide +kernel,by decide +kernel⟩
noncomputable def jco:DSt→MS Out:=(eRet (fun δ=>MS.b ((jar (mGet ["Log"] "reached" (lF (fVar 0))) (lF fNil)) δ) tupS))
noncomputable def jcs:List D→MS D:=mirE 1 1 jco
theorem jgr(T:Txt K mg)(f:Addr)(cdv:Value)(A:Around)(outer:List Env)(s:Shared)(H:Hp)(E:XK)(hr:Room 1 (A.deeper (PyProof.Rows.envOfC "Log.counts" (jab jbg) s.heap.objs.size f cdv))) :
  MSs (cxOf CX0 P w K mg base ["self"] "Log.counts" (jab jbg) f cdv A outer s H E).nox [] [] [] (jak jbg) jco :=
 (jat (jij (jlx rfl T.b_tuple (jap (jd9 (T.c_Log.is (by decide +kernel)) (jac (jaa 0))) (jaq jam)))))
theorem jjj(T:Txt K mg):MetE P w K mg base 2 "Log" "counts" 1 jcs:=jel T.f_Log_counts jjo (jgr T)
theorem sc_law_looks:FnScope ["_law_log","_law_counts","_law_taken","_law_kept","_law_told"] ["_law_log","_law_counts","_law_taken","_law_kept"] (jab jbv):=⟨rfl,rfl,rfl,by decide +kernel,rfl,by decide +kernel,by decide +kernel⟩
noncomputable def jdf:DSt→MS Out:=(eSeq (eSet 4 (mL jcn (jar (jdh "Log" "rows" jdz (lF (fVar 0)) (lF fNil)) (jar (jdh "Log" "waiting" jca (lF (fVar 0)) (lF fNil)) (lF fNil)))))
  (eSeq (eIf (mOr (mNot (mTru (fun δ=>MS.b ((jar (m2 gIx (lF (fVar 4)) (lF (fC (.int 0)))) (lF (jae (fC (.ty "list")) fNil))) δ) isiS))) (mNot (mTru (fun δ=>MS.b ((jar (m2 gIx (lF (fVar 4)) (lF (fC (.int 1)))) (lF (jae (fC (.ty "list")) fNil))) δ) isiS)))) (lF (gRet (fC (.bl false)))) eNx)
  (eSeq (eIf (mOr (mB (m2 gNe (jdh "Log" "counts" jcs (lF (fVar 0)) (lF fNil)) (fun δ=>MS.b ((jar (lF (fVar 1)) (lF fNil)) δ) tupS))) (mB (mNeS (lF (fVar 4)) (mL jcn (jar (lF (fVar 2)) (jar (jhm (jar (lF (fVar 3)) (lF fNil))) (lF fNil))))))) (lF (gRet (fC (.bl false)))) eNx)
  (eSeq (jff (jsp (m2 gIx (lF (fVar 4)) (lF (fC (.int 0))))))
  (eSeq (jff (jfz (m2 gIx (lF (fVar 4)) (lF (fC (.int 1)))) (lF (fL jeb (jae (fC (.int 0)) (jae (fC (.int 0)) fNil))))))
  (lF (gRet (fC (.bl true)))))))))
noncomputable def jb0:List D→MS D:=mirE 4 5 jdf
theorem jh0(T:Txt K mg)(f:Addr)(cdv:Value)(A:Around)(outer:List Env)(s:Shared)(H:Hp)(E:XK)(hr:Room 2 (A.deeper (PyProof.Rows.envOfC "_law_looks" (jab jbv) s.heap.objs.size f cdv))) :
  MSs (cxOf CX0 P w K mg base ["_law_log","_law_counts","_law_taken","_law_kept","_law_told"] "_law_looks" (jab jbv) f cdv A outer s H E).nox [] [] [] (jak jbv) jdf :=
 (jad (je3 (i:=4) sc_law_looks.nd (jui (jap (jew (jl6 T) (hr.mono (by decide)) (jac (jaa 0))) (jap (jew (jh5 T) (hr.mono (by decide)) (jac (jaa 0))) (jaq jam)))))
  (jad (jfn (MW.mt (jze (jkn (jho (jqd rfl T.b_isinstance (jap (jsv jbd jbe (jac (jaa 4)) (jac jai)) (jaq (jah (jo7 rfl T.b_list ji3) jam)))))) (juj (jkn (jho (jqd rfl T.b_isinstance (jap (jsv jbd jbe (jac (jaa 4)) (jac jai)) (jaq (jah (jo7 rfl T.b_list ji3) jam))))))))) (jat (jaw (jb3 jh2))) jcb)
  (jad (jfn (MW.mt (jze (jik (jkr (hu30 hr)) jm5 (jew (jjj T) (hr.mono (by decide)) (jac (jaa 0))) (jlx rfl T.b_tuple (jap (jac (jaa 1)) (jaq jam))) (jct _)) (juj (jzb (jkr (hu30 hr)) (jac (jaa 4)) (jui (jap (jac (jaa 2)) (jap (jm1 rfl rfl T.b_sorted (jap (jac (jaa 3)) (jaq jam))) (jaq jam)))) (jct _))))) (jat (jaw (jb3 jh2))) jcb)
  (jad (jdi (jv3 (jsv jbd jbe (jac (jaa 4)) (jac jai))))
  (jad (jdi (jje (jsv jbd jbe (jac (jaa 4)) (jac jai)) (jac (jo9 (jah jai (jah jai jam))))))
  (jat (jaw (jb3 jh2))))))))
theorem jen(T:Txt K mg):CalE P w K mg base 3 "_law_looks" 4 jb0:=jgt T.f_law_looks sc_law_looks (jh0 T)
theorem jmf:FnScope ["_law_counts","_law_row"] ["_law_counts","_law_row"] (jab jbw):=⟨rfl,rfl,rfl,by decide +kernel,rfl,by decide +kernel,by decide +kernel⟩
noncomputable def je7:DSt→M D:=(fVar 0)
noncomputable def jdx:DSt→MS Out:=(eSeq (eIf (mB (m2 gNe (lF (f2 gIx (fVar 1) (fC (.int 1)))) (mIxL (lF (fVar 0)) (lF (f2 gIx (fVar 1) (fC (.int 0))))))) (lF (gRet (fC (.bl false)))) eNx)
  (eRet (jp7 0 (f2 gEq (jnt 2 [("_law_counts",0)] (jha jfh (jae (f2 gIx (fVar 1) (fC (.int 2))) fNil)) (jcc 0 1) (t2 gGt (fVar 1) (f2 gIx (fVar 2) (fVar 0))) je7) (fL jcn fNil)))))
noncomputable def jch:List D→MS D:=mirE 2 2 jdx
theorem ji0(T:Txt K mg)(f:Addr)(cdv:Value)(A:Around)(outer:List Env)(s:Shared)(H:Hp)(E:XK)(hr:Room 1 (A.deeper (PyProof.Rows.envOfC "_law_fits" (jab jbw) s.heap.objs.size f cdv))) :
  MSs (cxOf CX0 P w K mg base ["_law_counts","_law_row"] "_law_fits" (jab jbw) f cdv A outer s H E).nox [] [] [] (jak jbw) jdx :=
 (jad (jfn (jik (jkr (hu30 hr)) jm5 (jac (jde jbd jbe (jaa 1) jai)) (jdr (jac (jaa 0)) (jac (jde jbd jbe (jaa 1) jai))) (jct _)) (jat (jaw (jb3 jh2))) jcb)
  (jat (jij (jv6 (i:=0) rfl (jt4 (jkq (hu30 hr)) jks (jvc (own:=["_law_place","_law_cause"]) (caps:=[("_law_counts",0)]) rfl (jgw (N:=["_law_counts","_law_row"]) (osc:=jab jbw) rfl rfl rfl (by decide +kernel)) (jr2 rfl T.b_enumerate (jah (jde jbd jbe (jaa 1) jai) jam)) (fun _ _ _ _=>(jg1 (i:=0) (j:=1) rfl (show (["_law_place","_law_cause","_law_counts"]:List Str).Nodup from by decide +kernel))) (fun _ _ _ _=>(jt3 (jf7 jzl jhr (jaa 1) (jde jbd jbe (jaa 2) (jaa 0)) (jct _)))) (fun _ _ _ _=>(jaa 0))) (jx1 jam) (jct _))))))
theorem jhq(T:Txt K mg):CalE P w K mg base 2 "_law_fits" 2 jch:=jgt T.f_law_fits jmf (ji0 T)
theorem sc_law_flushed:FnScope ["_law_counts","_law_taken","_law_kept","_law_busy","_law_key"] ["_law_counts","_law_taken","_law_kept"] (jab jba):=⟨rfl,rfl,rfl,by decide +kernel,rfl,by decide +kernel,by decide +kernel⟩
noncomputable def jbb:DSt→MS Out:=(eIf (mTru (jfa jch (jar (lF (fVar 0)) (jar (jp6 (lF (fVar 2)) (lF (fVar 4))) (lF fNil))))) (eSeq (jff (jfz (lF (fVar 1)) (jp8 (lF (fVar 2)) (lF (fVar 4)))))
  (eSeq (jkd (lF (fVar 0)) (lF (f2 gIx (fVar 4) (fC (.int 0)))) (m2 gCat (mIxL (lF (fVar 0)) (lF (f2 gIx (fVar 4) (fC (.int 0))))) (lF (fC (.int 1)))))
  (eSeq (lF (gSet 3 (fC (.bl true))))
  (lF gBrk)))) eNx)
noncomputable def jcl:DSt→MS Bool:=(lF (tTru (fVar 3)))
noncomputable def jci:DSt→MS Out:=(eSeq (lF (gSet 3 (fC (.bl false))))
  (eFor (mSeq (jhm (jar (lF (fVar 2)) (lF fNil)))) (DL.gName 4) jbb))
noncomputable def jb8:DSt→MS Out:=(eSeq (lF (gSet 3 (fC (.bl true))))
  (jdl jcl jci FUEL))
noncomputable def jc7:List D→MS D:=mirE 3 5 jb8
theorem jgc(T:Txt K mg)(f:Addr)(cdv:Value)(A:Around)(outer:List Env)(s:Shared)(H:Hp)(E:XK)(hr:Room 2 (A.deeper (PyProof.Rows.envOfC "_law_flushed" (jab jba) s.heap.objs.size f cdv))) :
  MSs (cxOf CX0 P w K mg base ["_law_counts","_law_taken","_law_kept","_law_busy","_law_key"] "_law_flushed" (jab jba) f cdv A outer s H E).nox [] [] [] (jak jba) jb8 :=
 (jad (jaw (jdo (i:=3) sc_law_flushed.nd jh2))
  (jat (jm3 (fuel:=FUEL) PassesOwn.never (jjh (jx7 (jaa 3))) (jad (jaw (jdo (i:=3) sc_law_flushed.nd jh2))
  (jat (jqh PassesOwn.never rfl (jy9 (jm1 rfl rfl T.b_sorted (jap (jac (jaa 2)) (jaq jam)))) (jg0 (i:=4) sc_law_flushed.nd) (jat (jfn (jho (jek (jhq T) (hr.mono (by decide)) (jap (jac (jaa 0)) (jap (jv5 (Nat.lt_of_le_of_lt (Nat.add_le_add_left (by decide) _) (hu30 hr)) (jac (jaa 2)) (jac (jaa 4))) (jaq jam))))) (jad (jdi (jje (jac (jaa 1)) (jv9 (Nat.lt_of_le_of_lt (Nat.add_le_add_left (by decide) _) (hu30 hr)) (jac (jaa 2)) (jac (jaa 4)))))
  (jad (jjg (jac (jaa 0)) (jac (jde jbd jbe (jaa 4) jai)) (jv7 jb1 jb2 (jdr (jac (jaa 0)) (jac (jde jbd jbe (jaa 4) jai))) (jac jai)))
  (jad (jaw (jdo (i:=3) sc_law_flushed.nd jh2))
  (jat (jaw jx3))))) jcb))))))))
theorem jh6(T:Txt K mg):CalE P w K mg base 3 "_law_flushed" 3 jc7:=jgt T.f_law_flushed sc_law_flushed (jgc T)
theorem jof:FnScope ["_law_counts","_law_taken","_law_kept","_law_row"] ["_law_counts","_law_taken","_law_kept","_law_row"] (jab jcw):=⟨rfl,rfl,rfl,by decide +kernel,rfl,by decide +kernel,by decide +kernel⟩
noncomputable def jcq:DSt→MS Out:=(eSeq (eIf (mB (m2 gLt (lF (f2 gIx (fVar 3) (fC (.int 1)))) (mIxL (lF (fVar 0)) (lF (f2 gIx (fVar 3) (fC (.int 0))))))) (lF (gRet (fC (.str "known")))) eNx)
  (eSeq (eIf (mNot (mTru (jfa jch (jar (lF (fVar 0)) (lF (jae (fVar 3) fNil)))))) (eSeq (eIf (mB (jhl (lF (fSl (fVar 3) jf1 (jec (fC (.int 2))))) (lF (fVar 2)))) (jr6 (lF (fVar 2)) (lF (fSl (fVar 3) jf1 (jec (fC (.int 2))))) (lF (fVar 3))) eNx)
  (lF (gRet (fC (.str "waits"))))) eNx)
  (eSeq (jff (jfz (lF (fVar 1)) (lF (fVar 3))))
  (eSeq (jkd (lF (fVar 0)) (lF (f2 gIx (fVar 3) (fC (.int 0)))) (m2 gCat (mIxL (lF (fVar 0)) (lF (f2 gIx (fVar 3) (fC (.int 0))))) (lF (fC (.int 1)))))
  (eSeq (jff (jfa jc7 (jar (lF (fVar 0)) (jar (lF (fVar 1)) (jar (lF (fVar 2)) (lF fNil))))))
  (lF (gRet (fC (.str "taken")))))))))
noncomputable def jd0:List D→MS D:=mirE 4 4 jcq
theorem jj1(T:Txt K mg)(f:Addr)(cdv:Value)(A:Around)(outer:List Env)(s:Shared)(H:Hp)(E:XK)(hr:Room 3 (A.deeper (PyProof.Rows.envOfC "_law_due" (jab jcw) s.heap.objs.size f cdv))) :
  MSs (cxOf CX0 P w K mg base ["_law_counts","_law_taken","_law_kept","_law_row"] "_law_due" (jab jcw) f cdv A outer s H E).nox [] [] [] (jak jcw) jcq :=
 (jad (jfn (jik jqn jhr (jac (jde jbd jbe (jaa 3) jai)) (jdr (jac (jaa 0)) (jac (jde jbd jbe (jaa 3) jai))) (jct _)) (jat (jaw (jb3 jf6))) jcb)
  (jad (jfn (jkn (jho (jek (jhq T) (hr.mono (by decide)) (jap (jac (jaa 0)) (jaq (jah (jaa 3) jam)))))) (jad (jfn (jqi (Nat.lt_of_le_of_lt (Nat.add_le_add_left (by decide) _) (hu30 hr)) (jac (ji7 (jaa 3) jlk (jg2 jai))) (jac (jaa 2)) rfl) (jat (js1 (Nat.lt_of_le_of_lt (Nat.add_le_add_left (by decide) _) (hu30 hr)) (jac (jaa 2)) (jaa 3) jlk (jg2 jai) (jac (jaa 3)))) jcb)
  (jat (jaw (jb3 jf6)))) jcb)
  (jad (jdi (jje (jac (jaa 1)) (jac (jaa 3))))
  (jad (jjg (jac (jaa 0)) (jac (jde jbd jbe (jaa 3) jai)) (jv7 jb1 jb2 (jdr (jac (jaa 0)) (jac (jde jbd jbe (jaa 3) jai))) (jac jai)))
  (jad (jdi (jek (jh6 T) (hr.mono (by decide)) (jap (jac (jaa 0)) (jap (jac (jaa 1)) (jap (jac (jaa 2)) (jaq jam))))))
  (jat (jaw (jb3 jf6))))))))
theorem jn4(T:Txt K mg):CalE P w K mg base 4 "_law_due" 4 jd0:=jgt T.f_law_due jof (jj1 T)
theorem sc_law:FnScope ["_law_script","_law_houses","_law_rows_here","_law_order_here","_law_log","_law_beside","_law_counts","_law_taken","_law_kept","_law_place"] ["_law_script"] (jab jk4):=⟨rfl,rfl,rfl,by decide +kernel,rfl,by decide +kernel,by decide +kernel⟩
noncomputable def jmj:DSt→MS Out:=(eSeq (eIf (mB (m2 gNe (jdh "Log" "take" jdb (lF (fVar 4)) (lF (jae (f2 gIx (fVar 2) (fVar 9)) fNil))) (jfa jd0 (jar (lF (fVar 6)) (jar (lF (fVar 7)) (jar (lF (fVar 8)) (lF (jae (f2 gIx (fVar 2) (fVar 9)) fNil)))))))) (lF (gRet (fC (.bl false)))) eNx)
  (eIf (mNot (mTru (jfa jb0 (jar (lF (fVar 4)) (jar (lF (fVar 6)) (jar (lF (fVar 7)) (jar (lF (fVar 8)) (lF fNil)))))))) (lF (gRet (fC (.bl false)))) eNx))
noncomputable def jpj:DSt→MS Out:=(eSeq (lF (gSet 1 (f2 gCat (fC (.int 2)) (f2 gMod (jeh jau (jae (fVar 0) (jae (fC (.int 0)) fNil))) (fC (.int 3))))))
  (eSeq (eSet 2 (jfa jev (lF (jae (fVar 0) (jae (fVar 1) fNil)))))
  (eSeq (lF (gSet 3 (jeh jd6 (jae (fVar 0) (jae (fL kLen (jae (fVar 2) fNil)) fNil)))))
  (eSeq (lF (gIf (t2 gEq (f2 gMod (jeh jau (jae (fVar 0) (jae (fC (.int 1)) fNil))) (fC (.int 3))) (fC (.int 1))) (gSet 3 (fSl (fVar 3) jf1 (jec (f2 jcm (fL kLen (jae (fVar 3) fNil)) (fC (.int 2)))))) gNx))
  (eSeq (eSet 4 (jnz "Log" jb4 (lF (jae (fVar 1) fNil))))
  (eSeq (eSet 5 (jnz "Log" jb4 (lF (jae (fVar 1) fNil))))
  (eSeq (eSet 6 (jh4 (lF (jae (fC (.int 0)) fNil)) (lF (fVar 1))))
  (eSeq (eSet 7 (jkm (lF fNil)))
  (eSeq (eSet 8 jkl)
  (eSeq (eFor (lF (jnv (fVar 3))) (DL.gName 9) jmj)
  (eRet (jy3 (jfa jb0 (jar (lF (fVar 4)) (jar (lF (fVar 6)) (jar (lF (fVar 7)) (jar (lF (fVar 8)) (lF fNil)))))) (jfa jb0 (jar (lF (fVar 5)) (jar (jh4 (lF (jae (fC (.int 0)) fNil)) (lF (fVar 1))) (jar (jkm (lF fNil)) (jar jkl (lF fNil))))))))))))))))))
noncomputable def jp9:List D→MS D:=mirE 1 10 jpj
theorem jru(T:Txt K mg)(f:Addr)(cdv:Value)(A:Around)(outer:List Env)(s:Shared)(H:Hp)(E:XK)(hr:Room 5 (A.deeper (PyProof.Rows.envOfC "law" (jab jk4) s.heap.objs.size f cdv))) :
  MSs (cxOf CX0 P w K mg base ["_law_script","_law_houses","_law_rows_here","_law_order_here","_law_log","_law_beside","_law_counts","_law_taken","_law_kept","_law_place"] "law" (jab jk4) f cdv A outer s H E).nox [] [] [] (jak jk4) jpj :=
 (jad (jaw (jdo (i:=1) sc_law.nd (ja6 jb1 jb2 jai (ja6 jcd jbq (jee (jcj T) (hr.mono (by decide)) (jah (jaa 0) (jah jai jam))) jai))))
  (jad (je3 (i:=2) sc_law.nd (jek (jl8 T) (hr.mono (by decide)) (jaq (jah (jaa 0) (jah (jaa 1) jam)))))
  (jad (jaw (jdo (i:=3) sc_law.nd (jee (jkp T) (hr.mono (by decide)) (jah (jaa 0) (jah (jgi jgu jli rfl T.b_len jov (jah (jaa 2) jam)) jam)))))
  (jad (jaw (jvi (jf7 (jkq (hu30 hr)) jks (ja6 jcd jbq (jee (jcj T) (hr.mono (by decide)) (jah (jaa 0) (jah jai jam))) jai) jai (jct _)) (je8 (jdo (i:=3) sc_law.nd (ji7 (jaa 3) jlk (jg2 (ja6 jc9 jda (jgi jgu jli rfl T.b_len jov (jah (jaa 3) jam)) jai))))) jll))
  (jad (je3 (i:=4) sc_law.nd (jqe (jfs T) (hr.mono (by decide)) (jaq (jah (jaa 1) jam))))
  (jad (je3 (i:=5) sc_law.nd (jqe (jfs T) (hr.mono (by decide)) (jaq (jah (jaa 1) jam))))
  (jad (je3 (i:=6) sc_law.nd (jjf (jaq (jah jai jam)) (jac (jaa 1))))
  (jad (je3 (i:=7) sc_law.nd (jlw (jaq jam)))
  (jad (je3 (i:=8) sc_law.nd jlv)
  (jad (jqh PassesOwn.never rfl (jlz (jt7 (jaa 3))) (jg0 (i:=9) sc_law.nd) (jad (jfn (jik (jkr (hu30 hr)) jm5 (jhn (jl7 T) (hr.mono (by decide)) (jac (jaa 4)) (jaq (jah (jde jbd jbe (jaa 2) (jaa 9)) jam))) (jek (jn4 T) (hr.mono (by decide)) (jap (jac (jaa 6)) (jap (jac (jaa 7)) (jap (jac (jaa 8)) (jaq (jah (jde jbd jbe (jaa 2) (jaa 9)) jam)))))) (jct _)) (jat (jaw (jb3 jh2))) jcb)
  (jat (jfn (jkn (jho (jek (jen T) (hr.mono (by decide)) (jap (jac (jaa 4)) (jap (jac (jaa 6)) (jap (jac (jaa 7)) (jap (jac (jaa 8)) (jaq jam)))))))) (jat (jaw (jb3 jh2))) jcb))))
  (jat (jij (jy5 (jek (jen T) (hr.mono (by decide)) (jap (jac (jaa 4)) (jap (jac (jaa 6)) (jap (jac (jaa 7)) (jap (jac (jaa 8)) (jaq jam)))))) (jy6 (jek (jen T) (hr.mono (by decide)) (jap (jac (jaa 5)) (jap (jjf (jaq (jah jai jam)) (jac (jaa 1))) (jap (jlw (jaq jam)) (jap jlv (jaq jam))))))))))))))))))))
end
theorem jh3{us:List Value}{n:Nat}(h:us.length=n+1):∃ a r,us=a::r∧r.length=n:=by
 cases us with
 | nil=>cases h
 | cons a r=>exact⟨a,r,rfl,Nat.succ.inj h⟩
theorem joq{fd:FuncData}{p0:Str}(h:∀ a0:Value,bindArgs fd ⟨[a0],[]⟩=pure ([p0].zip [a0]))(us:List Value)(hl:us.length=([p0]:List Str).length):bindArgs fd ⟨us,[]⟩=pure ([p0].zip us):=by
 obtain⟨a0,r0,rfl,q0⟩:=jh3 hl
 cases List.eq_nil_of_length_eq_zero q0
 exact h a0
theorem jiv{fd:FuncData}{p0 p1:Str}(h:∀ a0 a1:Value,bindArgs fd ⟨[a0,a1],[]⟩=pure ([p0,p1].zip [a0,a1]))(us:List Value)(hl:us.length=([p0,p1]:List Str).length):bindArgs fd ⟨us,[]⟩=pure ([p0,p1].zip us):=by
 obtain⟨a0,r0,rfl,q0⟩:=jh3 hl
 obtain⟨a1,r1,rfl,q1⟩:=jh3 q0
 cases List.eq_nil_of_length_eq_zero q1
 exact h a0 a1
theorem jBe{fd:FuncData}{p0 p1 p2:Str}(h:∀ a0 a1 a2:Value,bindArgs fd ⟨[a0,a1,a2],[]⟩=pure ([p0,p1,p2].zip [a0,a1,a2]))(us:List Value)(hl:us.length=([p0,p1,p2]:List Str).length):bindArgs fd ⟨us,[]⟩=pure ([p0,p1,p2].zip us):=by
 obtain⟨a0,r0,rfl,q0⟩:=jh3 hl
 obtain⟨a1,r1,rfl,q1⟩:=jh3 q0
 obtain⟨a2,r2,rfl,q2⟩:=jh3 q1
 cases List.eq_nil_of_length_eq_zero q2
 exact h a0 a1 a2
theorem jxs{fd:FuncData}{p0 p1 p2 p3:Str}(h:∀ a0 a1 a2 a3:Value,bindArgs fd ⟨[a0,a1,a2,a3],[]⟩=pure ([p0,p1,p2,p3].zip [a0,a1,a2,a3]))(us:List Value)(hl:us.length=([p0,p1,p2,p3]:List Str).length):bindArgs fd ⟨us,[]⟩=pure ([p0,p1,p2,p3].zip us):=by
 obtain⟨a0,r0,rfl,q0⟩:=jh3 hl
 obtain⟨a1,r1,rfl,q1⟩:=jh3 q0
 obtain⟨a2,r2,rfl,q2⟩:=jh3 q1
 obtain⟨a3,r3,rfl,q3⟩:=jh3 q2
 cases List.eq_nil_of_length_eq_zero q3
 exact h a0 a1 a2 a3
theorem txt_mk{K:PySem.W.Frag}{h:Heap}{mg:Str→Option Value}(X:K.In h)(G:h.Ns mainGlobals mg)
    {C_Log:Addr}
    {f0:Addr} {oc0 kV0 dc0 pm0 cd0 ct0:Value} {od0 an0:Option Addr} {sl0:Array (Option Value)}
    {f1:Addr} {oc1 kV1 dc1 pm1 cd1 ct1:Value} {od1 an1:Option Addr} {sl1:Array (Option Value)}
    {f2:Addr} {oc2 kV2 dc2 pm2 cd2 ct2:Value} {od2 an2:Option Addr} {sl2:Array (Option Value)}
    {f3:Addr} {oc3 kV3 dc3 pm3 cd3 ct3:Value} {od3 an3:Option Addr} {sl3:Array (Option Value)}
    {f4:Addr} {oc4 kV4 dc4 pm4 cd4 ct4:Value} {od4 an4:Option Addr} {sl4:Array (Option Value)}
    {f5:Addr} {oc5 kV5 dc5 pm5 cd5 ct5:Value} {od5 an5:Option Addr} {sl5:Array (Option Value)}
    {f6:Addr} {oc6 kV6 dc6 pm6 cd6 ct6:Value} {od6 an6:Option Addr} {sl6:Array (Option Value)}
    {f7:Addr} {oc7 kV7 dc7 pm7 cd7 ct7:Value} {od7 an7:Option Addr} {sl7:Array (Option Value)}
    {f8:Addr} {oc8 kV8 dc8 pm8 cd8 ct8:Value} {od8 an8:Option Addr} {sl8:Array (Option Value)}
    {f9:Addr} {oc9 kV9 dc9 pm9 cd9 ct9:Value} {od9 an9:Option Addr} {sl9:Array (Option Value)}
    {f10:Addr} {oc10 kV10 dc10 pm10 cd10 ct10:Value} {od10 an10:Option Addr} {sl10:Array (Option Value)}
    {f11:Addr} {oc11 kV11 dc11 pm11 cd11 ct11:Value} {od11 an11:Option Addr} {sl11:Array (Option Value)}
    {f12:Addr} {oc12 kV12 dc12 pm12 cd12 ct12:Value} {od12 an12:Option Addr} {sl12:Array (Option Value)}
    {f13:Addr} {oc13 kV13 dc13 pm13 cd13 ct13:Value} {od13 an13:Option Addr} {sl13:Array (Option Value)}
    {f14:Addr} {oc14 kV14 dc14 pm14 cd14 ct14:Value} {od14 an14:Option Addr} {sl14:Array (Option Value)}
    {f15:Addr} {oc15 kV15 dc15 pm15 cd15 ct15:Value} {od15 an15:Option Addr} {sl15:Array (Option Value)}
    {f16:Addr} {oc16 kV16 dc16 pm16 cd16 ct16:Value} {od16 an16:Option Addr} {sl16:Array (Option Value)}
    {f17:Addr} {oc17 kV17 dc17 pm17 cd17 ct17:Value} {od17 an17:Option Addr} {sl17:Array (Option Value)}
    (ca_Log:PySem.W.nsIn K mainGlobals "Log"=some (some (.ref C_Log)))
    (cp_Log:PySem.W.plainGet K C_Log Str.empty=true)
    (cq_Log:PySem.W.hasDictIn K C_Log=true)
    (cr_Log:PySem.W.plainOver K C_Log=true)
    (cs_Log:PySem.W.findIn K (.ref C_Log) "__setattr__"=some (some (.builtin "object.__setattr__")))
    (cf0_Log:PySem.W.findIn K (.ref C_Log) "held"=some none)
    (cf1_Log:PySem.W.findIn K (.ref C_Log) "reached"=some none)
    (cf2_Log:PySem.W.findIn K (.ref C_Log) "taken"=some none)
    (a0:PySem.W.findIn K (.ref C_Log) "__init__"=some (some (.ref f0)))
    (b0:PySem.W.isFn K (.ref f0)=true)
    (i0:PySem.W.makesIn K C_Log=true)
    (j0:PySem.W.keepIn K (.ref C_Log)=true)
    (l0:K.lookup f0=some ⟨oc0,od0,.func (PySem.W.fnOf "__init__" "Log.__init__" (jay jbh) (jak jbh) (jab jbh) .none kV0 dc0 pm0 an0 cd0 ct0),sl0⟩)
    (c0:PySem.W.codeIn K cd0 "Log.__init__"=true)
    (k0:PySem.W.keepIn K (.ref f0)=true)
    (a1:PySem.W.nsIn K mainGlobals "_law_mix"=some (some (.ref f1)))
    (l1:K.lookup f1=some ⟨oc1,od1,.func (PySem.W.fnOf "_law_mix" "_law_mix" (jay jcx) (jak jcx) (jab jcx) .none kV1 dc1 pm1 an1 cd1 ct1),sl1⟩)
    (c1:PySem.W.codeIn K cd1 "_law_mix"=true)
    (k1:PySem.W.keepIn K (.ref f1)=true)
    (a2:PySem.W.nsIn K mainGlobals "_law_rows"=some (some (.ref f2)))
    (l2:K.lookup f2=some ⟨oc2,od2,.func (PySem.W.fnOf "_law_rows" "_law_rows" (jay jbm) (jak jbm) (jab jbm) .none kV2 dc2 pm2 an2 cd2 ct2),sl2⟩)
    (c2:PySem.W.codeIn K cd2 "_law_rows"=true)
    (k2:PySem.W.keepIn K (.ref f2)=true)
    (a3:PySem.W.nsIn K mainGlobals "_law_cell_at"=some (some (.ref f3)))
    (l3:K.lookup f3=some ⟨oc3,od3,.func (PySem.W.fnOf "_law_cell_at" "_law_cell_at" (jay ja9) (jak ja9) (jab ja9) .none kV3 dc3 pm3 an3 cd3 ct3),sl3⟩)
    (c3:PySem.W.codeIn K cd3 "_law_cell_at"=true)
    (k3:PySem.W.keepIn K (.ref f3)=true)
    (a4:PySem.W.nsIn K mainGlobals "_law_order"=some (some (.ref f4)))
    (l4:K.lookup f4=some ⟨oc4,od4,.func (PySem.W.fnOf "_law_order" "_law_order" (jay jbj) (jak jbj) (jab jbj) .none kV4 dc4 pm4 an4 cd4 ct4),sl4⟩)
    (c4:PySem.W.codeIn K cd4 "_law_order"=true)
    (k4:PySem.W.keepIn K (.ref f4)=true)
    (a5:PySem.W.findIn K (.ref C_Log) "put"=some (some (.ref f5)))
    (b5:PySem.W.isFn K (.ref f5)=true)
    (l5:K.lookup f5=some ⟨oc5,od5,.func (PySem.W.fnOf "put" "Log.put" (jay jcv) (jak jcv) (jab jcv) .none kV5 dc5 pm5 an5 cd5 ct5),sl5⟩)
    (c5:PySem.W.codeIn K cd5 "Log.put"=true)
    (k5:PySem.W.keepIn K (.ref f5)=true)
    (a6:PySem.W.findIn K (.ref C_Log) "can_take"=some (some (.ref f6)))
    (b6:PySem.W.isFn K (.ref f6)=true)
    (l6:K.lookup f6=some ⟨oc6,od6,.func (PySem.W.fnOf "can_take" "Log.can_take" (jay ja0) (jak ja0) (jab ja0) .none kV6 dc6 pm6 an6 cd6 ct6),sl6⟩)
    (c6:PySem.W.codeIn K cd6 "Log.can_take"=true)
    (k6:PySem.W.keepIn K (.ref f6)=true)
    (a7:PySem.W.findIn K (.ref C_Log) "first_held"=some (some (.ref f7)))
    (b7:PySem.W.isFn K (.ref f7)=true)
    (l7:K.lookup f7=some ⟨oc7,od7,.func (PySem.W.fnOf "first_held" "Log.first_held" (jay jaz) (jak jaz) (jab jaz) .none kV7 dc7 pm7 an7 cd7 ct7),sl7⟩)
    (c7:PySem.W.codeIn K cd7 "Log.first_held"=true)
    (k7:PySem.W.keepIn K (.ref f7)=true)
    (a8:PySem.W.findIn K (.ref C_Log) "take_held"=some (some (.ref f8)))
    (b8:PySem.W.isFn K (.ref f8)=true)
    (l8:K.lookup f8=some ⟨oc8,od8,.func (PySem.W.fnOf "take_held" "Log.take_held" (jay ja1) (jak ja1) (jab ja1) .none kV8 dc8 pm8 an8 cd8 ct8),sl8⟩)
    (c8:PySem.W.codeIn K cd8 "Log.take_held"=true)
    (k8:PySem.W.keepIn K (.ref f8)=true)
    (a9:PySem.W.findIn K (.ref C_Log) "take"=some (some (.ref f9)))
    (b9:PySem.W.isFn K (.ref f9)=true)
    (l9:K.lookup f9=some ⟨oc9,od9,.func (PySem.W.fnOf "take" "Log.take" (jay jb6) (jak jb6) (jab jb6) .none kV9 dc9 pm9 an9 cd9 ct9),sl9⟩)
    (c9:PySem.W.codeIn K cd9 "Log.take"=true)
    (k9:PySem.W.keepIn K (.ref f9)=true)
    (a10:PySem.W.findIn K (.ref C_Log) "rows"=some (some (.ref f10)))
    (b10:PySem.W.isFn K (.ref f10)=true)
    (l10:K.lookup f10=some ⟨oc10,od10,.func (PySem.W.fnOf "rows" "Log.rows" (jay jb5) (jak jb5) (jab jb5) .none kV10 dc10 pm10 an10 cd10 ct10),sl10⟩)
    (c10:PySem.W.codeIn K cd10 "Log.rows"=true)
    (k10:PySem.W.keepIn K (.ref f10)=true)
    (a11:PySem.W.findIn K (.ref C_Log) "waiting"=some (some (.ref f11)))
    (b11:PySem.W.isFn K (.ref f11)=true)
    (l11:K.lookup f11=some ⟨oc11,od11,.func (PySem.W.fnOf "waiting" "Log.waiting" (jay ja8) (jak ja8) (jab ja8) .none kV11 dc11 pm11 an11 cd11 ct11),sl11⟩)
    (c11:PySem.W.codeIn K cd11 "Log.waiting"=true)
    (k11:PySem.W.keepIn K (.ref f11)=true)
    (a12:PySem.W.findIn K (.ref C_Log) "counts"=some (some (.ref f12)))
    (b12:PySem.W.isFn K (.ref f12)=true)
    (l12:K.lookup f12=some ⟨oc12,od12,.func (PySem.W.fnOf "counts" "Log.counts" (jay jbg) (jak jbg) (jab jbg) .none kV12 dc12 pm12 an12 cd12 ct12),sl12⟩)
    (c12:PySem.W.codeIn K cd12 "Log.counts"=true)
    (k12:PySem.W.keepIn K (.ref f12)=true)
    (a13:PySem.W.nsIn K mainGlobals "_law_looks"=some (some (.ref f13)))
    (l13:K.lookup f13=some ⟨oc13,od13,.func (PySem.W.fnOf "_law_looks" "_law_looks" (jay jbv) (jak jbv) (jab jbv) .none kV13 dc13 pm13 an13 cd13 ct13),sl13⟩)
    (c13:PySem.W.codeIn K cd13 "_law_looks"=true)
    (k13:PySem.W.keepIn K (.ref f13)=true)
    (a14:PySem.W.nsIn K mainGlobals "_law_fits"=some (some (.ref f14)))
    (l14:K.lookup f14=some ⟨oc14,od14,.func (PySem.W.fnOf "_law_fits" "_law_fits" (jay jbw) (jak jbw) (jab jbw) .none kV14 dc14 pm14 an14 cd14 ct14),sl14⟩)
    (c14:PySem.W.codeIn K cd14 "_law_fits"=true)
    (k14:PySem.W.keepIn K (.ref f14)=true)
    (a15:PySem.W.nsIn K mainGlobals "_law_flushed"=some (some (.ref f15)))
    (l15:K.lookup f15=some ⟨oc15,od15,.func (PySem.W.fnOf "_law_flushed" "_law_flushed" (jay jba) (jak jba) (jab jba) .none kV15 dc15 pm15 an15 cd15 ct15),sl15⟩)
    (c15:PySem.W.codeIn K cd15 "_law_flushed"=true)
    (k15:PySem.W.keepIn K (.ref f15)=true)
    (a16:PySem.W.nsIn K mainGlobals "_law_due"=some (some (.ref f16)))
    (l16:K.lookup f16=some ⟨oc16,od16,.func (PySem.W.fnOf "_law_due" "_law_due" (jay jcw) (jak jcw) (jab jcw) .none kV16 dc16 pm16 an16 cd16 ct16),sl16⟩)
    (c16:PySem.W.codeIn K cd16 "_law_due"=true)
    (k16:PySem.W.keepIn K (.ref f16)=true)
    (a17:PySem.W.nsIn K mainGlobals "law"=some (some (.ref f17)))
    (l17:K.lookup f17=some ⟨oc17,od17,.func (PySem.W.fnOf "law" "law" (jay jk4) (jak jk4) (jab jk4) .none kV17 dc17 pm17 an17 cd17 ct17),sl17⟩)
    (c17:PySem.W.codeIn K cd17 "law"=true)
    (k17:PySem.W.keepIn K (.ref f17)=true)
    (z0:PySem.W.nsIn K mainGlobals "all"=some none)
    (z1:PySem.W.nsIn K mainGlobals "enumerate"=some none)
    (z2:PySem.W.nsIn K mainGlobals "isinstance"=some none)
    (z3:PySem.W.nsIn K mainGlobals "len"=some none)
    (z4:PySem.W.nsIn K mainGlobals "list"=some none)
    (z5:PySem.W.nsIn K mainGlobals "max"=some none)
    (z6:PySem.W.nsIn K mainGlobals "range"=some none)
    (z7:PySem.W.nsIn K mainGlobals "sorted"=some none)
    (z8:PySem.W.nsIn K mainGlobals "tuple"=some none)
    (z9:PySem.W.nsIn K mainGlobals "zip"=some none):Txt K mg :=
  ⟨jc3 X G ca_Log cp_Log cq_Log cr_Log cs_Log (List.forall_mem_cons.mpr ⟨cf0_Log,(List.forall_mem_cons.mpr ⟨cf1_Log,(List.forall_mem_cons.mpr ⟨cf2_Log,(List.forall_mem_nil _)⟩)⟩)⟩),
   jsi X G (fun _ _ _ _ _ _=>jiv (fun _ _=>rfl)) ca_Log i0 a0 b0 j0 l0 c0 k0,
   jc5 X G (fun _ _ _ _ _ _=>jiv (fun _ _=>rfl)) a1 l1 c1 k1,
   jc5 X G (fun _ _ _ _ _ _=>jiv (fun _ _=>rfl)) a2 l2 c2 k2,
   jc5 X G (fun _ _ _ _ _ _=>jiv (fun _ _=>rfl)) a3 l3 c3 k3,
   jc5 X G (fun _ _ _ _ _ _=>jiv (fun _ _=>rfl)) a4 l4 c4 k4,
   jds X G (jc3 X G ca_Log cp_Log cq_Log cr_Log cs_Log (List.forall_mem_cons.mpr ⟨cf0_Log,(List.forall_mem_cons.mpr ⟨cf1_Log,(List.forall_mem_cons.mpr ⟨cf2_Log,(List.forall_mem_nil _)⟩)⟩)⟩)) (fun _ _ _ _ _ _=>jiv (fun _ _=>rfl)) ca_Log a5 b5 l5 c5 k5,
   jds X G (jc3 X G ca_Log cp_Log cq_Log cr_Log cs_Log (List.forall_mem_cons.mpr ⟨cf0_Log,(List.forall_mem_cons.mpr ⟨cf1_Log,(List.forall_mem_cons.mpr ⟨cf2_Log,(List.forall_mem_nil _)⟩)⟩)⟩)) (fun _ _ _ _ _ _=>jiv (fun _ _=>rfl)) ca_Log a6 b6 l6 c6 k6,
   jds X G (jc3 X G ca_Log cp_Log cq_Log cr_Log cs_Log (List.forall_mem_cons.mpr ⟨cf0_Log,(List.forall_mem_cons.mpr ⟨cf1_Log,(List.forall_mem_cons.mpr ⟨cf2_Log,(List.forall_mem_nil _)⟩)⟩)⟩)) (fun _ _ _ _ _ _=>joq (fun _=>rfl)) ca_Log a7 b7 l7 c7 k7,
   jds X G (jc3 X G ca_Log cp_Log cq_Log cr_Log cs_Log (List.forall_mem_cons.mpr ⟨cf0_Log,(List.forall_mem_cons.mpr ⟨cf1_Log,(List.forall_mem_cons.mpr ⟨cf2_Log,(List.forall_mem_nil _)⟩)⟩)⟩)) (fun _ _ _ _ _ _=>joq (fun _=>rfl)) ca_Log a8 b8 l8 c8 k8,
   jds X G (jc3 X G ca_Log cp_Log cq_Log cr_Log cs_Log (List.forall_mem_cons.mpr ⟨cf0_Log,(List.forall_mem_cons.mpr ⟨cf1_Log,(List.forall_mem_cons.mpr ⟨cf2_Log,(List.forall_mem_nil _)⟩)⟩)⟩)) (fun _ _ _ _ _ _=>jiv (fun _ _=>rfl)) ca_Log a9 b9 l9 c9 k9,
   jds X G (jc3 X G ca_Log cp_Log cq_Log cr_Log cs_Log (List.forall_mem_cons.mpr ⟨cf0_Log,(List.forall_mem_cons.mpr ⟨cf1_Log,(List.forall_mem_cons.mpr ⟨cf2_Log,(List.forall_mem_nil _)⟩)⟩)⟩)) (fun _ _ _ _ _ _=>joq (fun _=>rfl)) ca_Log a10 b10 l10 c10 k10,
   jds X G (jc3 X G ca_Log cp_Log cq_Log cr_Log cs_Log (List.forall_mem_cons.mpr ⟨cf0_Log,(List.forall_mem_cons.mpr ⟨cf1_Log,(List.forall_mem_cons.mpr ⟨cf2_Log,(List.forall_mem_nil _)⟩)⟩)⟩)) (fun _ _ _ _ _ _=>joq (fun _=>rfl)) ca_Log a11 b11 l11 c11 k11,
   jds X G (jc3 X G ca_Log cp_Log cq_Log cr_Log cs_Log (List.forall_mem_cons.mpr ⟨cf0_Log,(List.forall_mem_cons.mpr ⟨cf1_Log,(List.forall_mem_cons.mpr ⟨cf2_Log,(List.forall_mem_nil _)⟩)⟩)⟩)) (fun _ _ _ _ _ _=>joq (fun _=>rfl)) ca_Log a12 b12 l12 c12 k12,
   jc5 X G (fun _ _ _ _ _ _=>jxs (fun _ _ _ _=>rfl)) a13 l13 c13 k13,
   jc5 X G (fun _ _ _ _ _ _=>jiv (fun _ _=>rfl)) a14 l14 c14 k14,
   jc5 X G (fun _ _ _ _ _ _=>jBe (fun _ _ _=>rfl)) a15 l15 c15 k15,
   jc5 X G (fun _ _ _ _ _ _=>jxs (fun _ _ _ _=>rfl)) a16 l16 c16 k16,
   jc5 X G (fun _ _ _ _ _ _ us hl=>match us,hl with|[_],_=>rfl) a17 l17 c17 k17,
   PySem.W.mg_none_of X G z0,
   PySem.W.mg_none_of X G z1,
   PySem.W.mg_none_of X G z2,
   PySem.W.mg_none_of X G z3,
   PySem.W.mg_none_of X G z4,
   PySem.W.mg_none_of X G z5,
   PySem.W.mg_none_of X G z6,
   PySem.W.mg_none_of X G z7,
   PySem.W.mg_none_of X G z8,
   PySem.W.mg_none_of X G z9⟩
theorem walk{l:PySem.W.OpenLaw}{q:Program}{loose:List Str}{XP:(Str→Option Value)→Heap→Prop}{YP:World→Heap→Prop}{d:DefRec}{K:Params→PySem.W.Frag}(hn:l.most=some 63)(hdf:d.params.defaults=[])
  (hY:∀ (w:World) (h:Heap),YP w h→(K w.params).In h)
  (F:∀ (w:World) (mg:Str→Option Value) (fa:Addr) (h:Heap),(K w.params).In h→h.Ns mainGlobals mg→mg d.name=some (.ref fa)→Txt (K w.params) mg∧mg "law"=some (.ref fa))
  (hm:∀ ns:List Int,ns.length≤63→∃ Ω,jp9 [.lst (ns.map .int)] []=some (.ok (.bl true),Ω)) :
  PySem.W.WalkO q loose XP YP l.row.toRowW d [] (fun f vs=>PySem.call f vs) :=
 L2.walk_of (n:=63) (k:=6) (x:="_law_script") (CX:=fun _=>CX0) (sp:=fun w=>spA (K w.params) 1 jp9) hn (by decide) hdf ⟨rfl,by decide,by decide⟩ hY
  (fun w mg fa h KX G hmg=>by
   obtain⟨T,hf⟩:=F w mg fa h KX G hmg
   obtain⟨fd,FF,hb⟩:=jph T.f_law hf (fun _ _ _ _ _ _ _ _=>.of_eq rfl)
   exact⟨fd,hb,fun base _ _=>(fn_E FF sc_law (jru T)).imp fun vs H Q E z=>z mg⟩)
  (fun _ _ a ns hl _ hS=>fun mg=>let ⟨Ω,e⟩:=hm ns hl;jvz hS e) fun _ _ _ _ _ z=>z
theorem jtx{q:Program}{loose:List Str}{XP:(Str→Option Value)→Heap→Prop}{K:Params→PySem.W.Frag}{as:List Addr}{n t:Nat}{r:PySem.W.RowW}{d:DefRec}{kwd:List (Str×Expr)}{run:Value→List Value→Sem Value}
  (he:∀ P,as=(K P).map (·.1)) (h:PySem.W.WalkO q loose XP (fun w h=>(K w.params).In h) r d kwd run):PySem.W.WalkX q loose XP (PySem.W.X.obsZ as) (PySem.W.X.valZ K n t) r d kwd run:=by
 intro w s₀ s₁ mg mb G y a o pm cd doc dV kV ho hd hcd hD hmg hg args vals as' L
 refine h w s₀ s₁ mg mb G ?_ a o pm cd doc dV kV ho hd hcd hD hmg hg args vals as'
 have e:(K w.params).In s₀.heap:=(PySem.W.X.z_facts he y).2.1
 exact fun b o' q=>L.keeps b o' (e b o' q)
theorem walkZ{l:PySem.W.OpenLaw}{q:Program}{loose:List Str}{XP:(Str→Option Value)→Heap→Prop}{d:DefRec}{K:Params→PySem.W.Frag}{as:List Addr}{n t:Nat}(he:∀ P,as=(K P).map (·.1))(hn:l.most=some 63)(hdf:d.params.defaults=[])
  (F:∀ (w:World) (mg:Str→Option Value) (fa:Addr) (h:Heap),(K w.params).In h→h.Ns mainGlobals mg→mg d.name=some (.ref fa)→Txt (K w.params) mg∧mg "law"=some (.ref fa))
  (hm:∀ ns:List Int,ns.length≤63→∃ Ω,jp9 [.lst (ns.map .int)] []=some (.ok (.bl true),Ω)) :
  PySem.W.WalkX q loose XP (PySem.W.X.obsZ as) (PySem.W.X.valZ K n t) l.row.toRowW d [] (fun f vs=>PySem.call f vs) :=
 jtx he (walk (K:=K) hn hdf (fun _ _ y=>y) F hm)
noncomputable section
section
variable {α β:Type}{δ δ':DSt}{Ω Ω1 Ω2 Ω':Sto}
theorem v_b{m:MS α}{f:α→MS β}{a:α}(h:m Ω=some (.ok a,Ω1)):(m.b f) Ω=f a Ω1:=by rw[s_b,h,je0]
theorem u_l{f:DSt→M α}{a:α}(h:f δ=some (.ok a)):lF f δ Ω=some (.ok a,Ω):=by rw[s_lF,h];rfl
theorem ja5{g1 g2:DSt→MS Out}(h:g1 δ Ω=some (.ok (.nx δ'),Ω')):eSeq g1 g2 δ Ω=g2 δ' Ω':=by rw[jw5,s_b,h,je0,jw9]
theorem u_rt{g1 g2:DSt→MS Out}{d:D}(h:g1 δ Ω=some (.ok (.rt d),Ω')):eSeq g1 g2 δ Ω=some (.ok (.rt d),Ω'):=by rw[jw5,s_b,h,je0,jxa];rfl
theorem jf4{i:Nat}{fa:DSt→MS D}{d:D}(h:fa δ Ω=some (.ok d,Ω')):eSet i fa δ Ω=some (.ok (.nx (δ.set i (some d))),Ω'):=by rw[jCe,s_b,h,je0];rfl
theorem jes{fa:DSt→MS D}{d:D}(h:fa δ Ω=some (.ok d,Ω')):jff fa δ Ω=some (.ok (.nx δ),Ω'):=by rw[jAh,s_b,h,je0];rfl
theorem jol{fa:DSt→MS D}{d:D}(h:fa δ Ω=some (.ok d,Ω')):eRet fa δ Ω=some (.ok (.rt d),Ω'):=by rw[jCd,s_b,h,je0];rfl
theorem u_if{t:DSt→MS Bool}{g1 g2:DSt→MS Out}{b:Bool}(h:t δ Ω=some (.ok b,Ω')):eIf t g1 g2 δ Ω=(if b=true then g1 δ else g2 δ) Ω':=by rw[s_if,s_b,h,je0]
theorem jdu{t:DSt→MS Bool}{g1 g2:DSt→MS Out}(h:t δ Ω=some (.ok false,Ω')):eSeq (eIf t g1 eNx) g2 δ Ω=g2 δ Ω':=ja5 (by rw[u_if h,if_neg (by decide)];rfl)
theorem jhx{t:DSt→MS Bool}{g1 g2:DSt→MS Out}{d:D}(h:t δ Ω=some (.ok true,Ω1))(h2:g1 δ Ω1=some (.ok (.rt d),Ω')):eSeq (eIf t g1 eNx) g2 δ Ω=some (.ok (.rt d),Ω'):=u_rt (by rw[u_if h,if_pos rfl,h2])
theorem jf9{m:List D→MS D}{fl:DSt→MS (List D)}{ds:List D}(h:fl δ Ω=some (.ok ds,Ω1)):jfa m fl δ Ω=m ds Ω1:=by rw[jAf,s_b,h,je0]
theorem u_2{g:D→D→Option D}{fa fb:DSt→MS D}{x y d:D}(h1:fa δ Ω=some (.ok x,Ω1))(h2:fb δ Ω1=some (.ok y,Ω2))(h3:g x y=some d):m2 g fa fb δ Ω=some (.ok d,Ω2):=by rw[s_2,s_b,h1,je0,s_b,h2,je0,h3];rfl
theorem u_B{fa:DSt→MS D}{b:Bool}(h:fa δ Ω=some (.ok (.bl b),Ω1)):mB fa δ Ω=some (.ok b,Ω1):=by rw[s_B,s_b,h,je0];rfl
theorem jmh{fa:DSt→MS D}{b:Bool}(h:fa δ Ω=some (.ok (.bl b),Ω1)):mTru fa δ Ω=some (.ok b,Ω1):=by rw[jCf,s_b,h,je0];rfl
theorem jrn{t:DSt→MS Bool}{b:Bool}(h:t δ Ω=some (.ok b,Ω1)):mNot t δ Ω=some (.ok !b,Ω1):=by rw[jCc,s_b,h,je0];rfl
theorem jAw{ta tb:DSt→MS Bool}{a b:Bool}(h:ta δ Ω=some (.ok a,Ω1))(h2:a=true→tb δ Ω1=some (.ok b,Ω1)):mAnd ta tb δ Ω=some (.ok (a&&b),Ω1):=by
 unfold mAnd
 rw[v_b h]
 cases a with
 | true=>rw[if_pos rfl,h2 rfl];rfl
 | false=>rfl
theorem jav{fa:DSt→MS D}{fl:DSt→MS (List D)}{x:D}{xs:List D}(h1:fa δ Ω=some (.ok x,Ω1))(h2:fl δ Ω1=some (.ok xs,Ω2)):jar fa fl δ Ω=some (.ok (x::xs),Ω2):=by rw[jAg,s_b,h1,je0,s_b,h2,je0];rfl
theorem u_L{k:List D→Option D}{fl:DSt→MS (List D)}{xs:List D}{d:D}(h1:fl δ Ω=some (.ok xs,Ω1))(h2:k xs=some d):mL k fl δ Ω=some (.ok d,Ω1):=by rw[s_L,s_b,h1,je0,h2];rfl
theorem jrm{f:Str}{fa:DSt→MS D}{i:Nat}{fs:List (Str×D)}{d:D}(h:fa δ Ω=some (.ok (.obj i),Ω1))(h1:Ω1[i]? = some (.ins "Log" fs))(h2:fs.lookup f=some d):mGet ["Log"] f fa δ Ω=some (.ok d,Ω1):=by
 unfold mGet
 rw[v_b h]
 unfold getO
 dsimp only
 rw[h1]
 dsimp only
 rw[if_pos (by decide),h2]
 rfl
theorem jlc{fa fb:DSt→MS D}{n:Nat}{j:Int}{ds:List D}{d:D}(h1:fa δ Ω=some (.ok (.obj n),Ω1))(h2:fb δ Ω1=some (.ok (.int j),Ω2))(h3:Ω2[n]? = some (.lst ds))(h4:L2.atI ds j=some d):mIxL fa fb δ Ω=some (.ok d,Ω2):=by
 unfold mIxL
 rw[v_b h1,v_b h2]
 unfold atL
 dsimp only
 rw[h3]
 dsimp only
 rw[h4]
 rfl
theorem jet{x:Str}{m:List D→MS D}{fo:DSt→MS D}{fl:DSt→MS (List D)}{i:Nat}{fs:List (Str×D)}{ds:List D}(h:fo δ Ω=some (.ok (.obj i),Ω1))(h1:Ω1[i]? = some (.ins "Log" fs))(h2:fs.lookup x=none)(h3:fl δ Ω1=some (.ok ds,Ω2)):jdh "Log" x m fo fl δ Ω=m (.obj i::ds) Ω2:=by
 unfold jdh
 rw[v_b h]
 dsimp only
 unfold jn3
 rw[h1]
 dsimp only
 rw[if_pos ⟨rfl,h2⟩,v_b h3]
end
structure Row where
 h:Nat
 n:Int
 cs:List Int
 deed:D
noncomputable def rowD(r:Row):D:=.tup [.int (r.h:Int),.int r.n,.tup (r.cs.map .int),r.deed]
structure Ok(H:Nat)(r:Row):Prop where
 h:r.h<H
 c:r.cs.length=H
 d1:okD r.deed=true
 d2:depD r.deed≤3
noncomputable def canT(c:List Int)(r:Row):Bool:=(r.n == c.getD r.h 0)&&(r.cs.zip c).all fun p=>decide (p.1≤p.2)
noncomputable def logF(L:Nat):List (Str×D):=[("taken",.obj (L+1)),("reached",.obj (L+2)),("held",.obj (L+3))]
noncomputable def keyR(r:Row):List Int:=[(r.h:Int),r.n]
structure LogAt(H B:Nat)(Ω:Sto)(L:Nat)(c:List Int)(hd tk:List Row):Prop where
 o:Ω[L]? = some (.ins "Log" (logF L))
 t:Ω[L+1]? = some (.lst (tk.map rowD))
 b:tk.length+hd.length≤B
 r:Ω[L+2]? = some (.lst (c.map .int))
 d:Ω[L+3]? = some (.dct (hd.map fun r=>(keyR r,rowD r)))
 l:c.length=H
 k:∀ r∈hd,Ok H r
 s:H≤1000
structure FrL(L:Nat)(Ω Ω':Sto):Prop where
 l:Ω'.length=Ω.length
 e:∀ i,i<L∨L+3<i→Ω'[i]? = Ω[i]?
theorem FrL.refl(L:Nat)(Ω:Sto):FrL L Ω Ω:=⟨rfl,fun _ _=>rfl⟩
theorem FrL.trans{L:Nat}{Ω Ω1 Ω2:Sto}(a:FrL L Ω Ω1)(b:FrL L Ω1 Ω2):FrL L Ω Ω2:=⟨b.l.trans a.l,fun i h=>(b.e i h).trans (a.e i h)⟩
theorem FrL.set{L:Nat}{Ω:Sto}{k:Nat}{x:SO}(h1:L≤k)(h2:k≤L+3):FrL L Ω (Ω.set k x):=⟨List.length_set,fun i h=>List.getElem?_set_ne (by omega)⟩
theorem FrL.log{H B L M:Nat}{Ω Ω':Sto}{c:List Int}{hd tk:List Row}(f:FrL L Ω Ω')(h:M+3<L∨L+3<M)(A:LogAt H B Ω M c hd tk):LogAt H B Ω' M c hd tk :=
 ⟨(f.e M (by omega)).trans A.o,(f.e (M+1) (by omega)).trans A.t,A.b,(f.e (M+2) (by omega)).trans A.r,(f.e (M+3) (by omega)).trans A.d,A.l,A.k,A.s⟩
theorem lk_t(L:Nat):(logF L).lookup (Str.ofString "taken")=some (D.obj (L+1)):=rfl
theorem lk_r(L:Nat):(logF L).lookup (Str.ofString "reached")=some (D.obj (L+2)):=by
 unfold logF
 rw[List.lookup_cons,show (Str.ofString "reached" == Str.ofString "taken")=false from by decide,List.lookup_cons,show (Str.ofString "reached" == Str.ofString "reached")=true from by decide]
theorem lk_h(L:Nat):(logF L).lookup (Str.ofString "held")=some (D.obj (L+3)):=by
 unfold logF
 rw[List.lookup_cons,show (Str.ofString "held" == Str.ofString "taken")=false from by decide,List.lookup_cons,show (Str.ofString "held" == Str.ofString "reached")=false from by decide,List.lookup_cons,show (Str.ofString "held" == Str.ofString "held")=true from by decide]
theorem jhj(L:Nat){x:Str}(h1:(x == Str.ofString "taken")=false)(h2:(x == Str.ofString "reached")=false)(h3:(x == Str.ofString "held")=false):(logF L).lookup x=none:=by
 unfold logF
 rw[List.lookup_cons,h1,List.lookup_cons,h2,List.lookup_cons,h3]
 rfl
theorem jk2(r:Row):gIx (rowD r) (.int 0)=some (.int (r.h:Int)):=DL.atI_get (j:=0) rfl
theorem jod(r:Row):gIx (rowD r) (.int 1)=some (.int r.n):=DL.atI_get (j:=1) rfl
theorem jAd(r:Row):gIx (rowD r) (.int 2)=some (.tup (r.cs.map .int)):=DL.atI_get (j:=2) rfl
theorem at_c{c:List Int}{k:Nat}(h:k<c.length):L2.atI (c.map D.int) (k:Int)=some (.int (c.getD k 0)):=by
 refine DL.atI_get (j:=k) ?_
 rw[List.getElem?_map,List.getElem?_eq_getElem h,List.getD_eq_getElem?_getD,List.getElem?_eq_getElem h];rfl
theorem jdk(c:List Int):(c.map D.int).all jfw=true:=by
 rw[List.all_map]
 exact List.all_eq_true.mpr fun _ _=>rfl
section
variable {H B:Nat}{Ω:Sto}{L:Nat}{c:List Int}{hd tk:List Row}{r:Row}
theorem rch{δ:DSt}(A:LogAt H B Ω L c hd tk)(h0:δ[0]? = some (some (.obj L))):mGet ["Log"] "reached" (lF (fVar 0)) δ Ω=some (.ok (.obj (L+2)),Ω) :=
 jrm (u_l (by rw[jnr,h0];rfl)) A.o (lk_r L)
theorem hld{δ:DSt}(A:LogAt H B Ω L c hd tk)(h0:δ[0]? = some (some (.obj L))):mGet ["Log"] "held" (lF (fVar 0)) δ Ω=some (.ok (.obj (L+3)),Ω) :=
 jrm (u_l (by rw[jnr,h0];rfl)) A.o (lk_h L)
theorem ne_s(a b:Int):gNe (.int a) (.int b)=some (.bl !(a == b)):=rfl
theorem jt1(A:LogAt H B Ω L c hd tk)(K:Ok H r):ja4 [.obj L,rowD r] Ω=some (.ok (.bl (canT c r)),Ω):=by
 unfold ja4
 rw[jiq]
 show (MS.b (jby [some (.obj L),some (rowD r)]) outE) Ω=_
 suffices h:jby [some (.obj L),some (rowD r)] Ω=some (.ok (.rt (.bl (canT c r))),Ω) by
  rw[v_b h];rfl
 have ix:mIxL (mGet ["Log"] "reached" (lF (fVar 0))) (lF (f2 gIx (fVar 1) (fC (.int 0)))) [some (.obj L),some (rowD r)] Ω=some (.ok (.int (c.getD r.h 0)),Ω) :=
  jlc (rch A rfl) (u_l (by simp only[stp,jk2];rfl)) A.r (at_c (by rw[A.l];exact K.h))
 have tst:mB (m2 gNe (lF (f2 gIx (fVar 1) (fC (.int 1)))) (mIxL (mGet ["Log"] "reached" (lF (fVar 0))) (lF (f2 gIx (fVar 1) (fC (.int 0)))))) [some (.obj L),some (rowD r)] Ω=some (.ok !(r.n == c.getD r.h 0),Ω) :=
  u_B (u_2 (u_l (by simp only[stp,jod];rfl)) ix (ne_s _ _))
 unfold jby
 by_cases hn:r.n=c.getD r.h 0
 ·have e1:(r.n == c.getD r.h 0)=true:=by simpa using hn
  rw[e1] at tst
  rw[jdu tst]
  have cz:jd4 2 [] (jcc 0 1) tYes jbr [some (.obj L),some (rowD r)] [.tup (r.cs.map .int),.obj (L+2)] Ω=some ((r.cs.zip c).map fun p=>.bl (decide (p.1≤p.2))):=by
   have w1:jfb Ω (.tup (r.cs.map D.int))=some (r.cs.map .int):=rfl
   have w2:jfb Ω (.obj (L+2))=some (c.map .int):=by
    unfold jfb
    dsimp only
    rw[A.r]
    dsimp only
    rw[if_pos (jdk c)]
   have cm:jbx (jcc 0 1) tYes jbr ((r.cs.zip c).map fun p=>.tup [.int p.1,.int p.2]) (jbf 2 [] [some (.obj L),some (rowD r)])=some ((r.cs.zip c).map fun p=>.bl (decide (p.1≤p.2))):=by
    refine jj8 (K:=fun p:Int×Int=>(.int p.1,.int p.2)) (F:=fun p:Int×Int=>.bl (decide (p.1≤p.2))) (r.cs.zip c) none none fun p _=>?_
    unfold jbr
    simp only[stp];rfl
   unfold jd4
   dsimp only
   rw[w1,w2,Option.bind_some,Option.bind_some,jhz,cm,Option.bind_some,if_pos]
   refine⟨?_,?_⟩
   ·rw[List.length_map,List.length_zip]
    refine Nat.le_trans (Nat.min_le_right _ _) ?_
    rw[A.l]
    exact Nat.le_trans A.s (by decide)
   ·rw[List.all_map]
    exact List.all_eq_true.mpr fun _ _=>rfl
  refine jol (u_L (xs:=[.lst ((r.cs.zip c).map fun p=>.bl (decide (p.1≤p.2)))]) (jav ?_ (u_l rfl)) ?_)
  ·unfold jp5
   rw[v_b (jav (u_l (by simp only[stp,jAd];rfl)) (jav (rch A rfl) (u_l rfl)))]
   show (jd4 2 [] (jcc 0 1) tYes jbr [some (.obj L),some (rowD r)] [.tup (r.cs.map .int),.obj (L+2)] Ω).map _=_
   rw[cz];rfl
  ·rw[jxr]
   unfold canT
   rw[e1,Bool.true_and]
 ·have e1:(r.n == c.getD r.h 0)=false:=by simpa using hn
  rw[e1] at tst
  rw[jhx tst (u_l (jA4 rfl))]
  unfold canT
  rw[e1];rfl
end
end
noncomputable section
section
variable {δ:DSt}{Ω Ω1 Ω2:Sto}
theorem jrl{fo fa:DSt→MS D}{n:Nat}{ds:List D}{d:D}(h1:fo δ Ω=some (.ok (.obj n),Ω))(h2:Ω[n]? = some (.lst ds))(h3:fa δ Ω=some (.ok d,Ω))(h4:ds.length<sizeLine):jfz fo fa δ Ω=some (.ok .non,Ω.set n (.lst (ds++[d]))):=by
 unfold jfz
 have c:chkL (.obj n) Ω=some (.ok (.obj n),Ω):=by unfold chkL;dsimp only;rw[h2]
 rw[v_b h1,v_b c,v_b h3]
 unfold putL
 dsimp only
 rw[h2]
 dsimp only
 unfold gApL
 rw[if_pos h4];rfl
theorem jAx{fo fi fe:DSt→MS D}{n j:Nat}{ds:List D}{a b:Int}(h1:fo δ Ω=some (.ok (.obj n),Ω))(h2:fi δ Ω=some (.ok (.int (j:Int)),Ω))(h3:Ω[n]? = some (.lst ds))(h4:ds[j]? = some (.int a))(h5:fe δ Ω=some (.ok (.int b),Ω)) :
  jpa fo fi fe δ Ω=some (.ok (.nx δ),Ω.set n (.lst (ds.set j (.int (a+b))))):=by
 unfold jpa
 have hl:j<ds.length:=(List.getElem?_eq_some_iff.mp h4).1
 have g:gtL (.obj n) (.int (j:Int)) Ω=some (.ok (.int a),Ω):=by
  unfold gtL
  dsimp only
  rw[if_pos (Int.natCast_nonneg j)]
  unfold atL
  dsimp only
  rw[h3]
  dsimp only
  rw[DL.atI_get h4];rfl
 have st:setL (.obj n) (.int (j:Int)) (.int (a+b)) Ω=some (.ok .non,Ω.set n (.lst (ds.set j (.int (a+b))))):=by
  rw[jjq]
  unfold putL
  dsimp only
  rw[h3]
  dsimp only
  unfold gStL
  have ix:L2.ixN ds.length (j:Int)=some j:=by
   unfold L2.ixN
   rw[if_pos (Int.natCast_nonneg j),if_pos (Int.ofNat_lt.mpr hl)];rfl
  rw[ix];rfl
 rw[v_b h1,v_b h2,v_b g,v_b h5]
 rw[v_b (show adL (.int a) (.int b) Ω=some (.ok (.int (a+b)),Ω) from rfl),v_b st]
 rfl
theorem jtv{g:List (List Int×D)→List Int→Option (D×List (List Int×D))}{n:Nat}{i j:Int}{kvs kvs':List (List Int×D)}{d:D}(h1:Ω[n]? = some (.dct kvs))(h2:g kvs [i,j]=some (d,kvs')):atD g (.obj n) [.int i,.int j] Ω=some (.ok d,Ω.set n (.dct kvs')):=by
 unfold atD
 dsimp only
 rw[h1]
 dsimp only
 rw[h2]
theorem c_D{n:Nat}{kvs:List (List Int×D)}(h:Ω[n]? = some (.dct kvs)):chkD (.obj n) Ω=some (.ok (.obj n),Ω):=by unfold chkD;dsimp only;rw[h]
end
noncomputable def bmp(c:List Int)(h:Nat):List Int:=c.set h (c.getD h 0+1)
theorem je5(c:List Int)(h:Nat):(bmp c h).length=c.length:=by unfold bmp;rw[List.length_set]
section
variable {H B:Nat}{Ω:Sto}{L:Nat}{c:List Int}{hd tk:List Row}{r:Row}
theorem LogAt.len(A:LogAt H B Ω L c hd tk):L+3<Ω.length:=(List.getElem?_eq_some_iff.mp A.d).1
theorem LogAt.mono{B':Nat}(A:LogAt H B Ω L c hd tk)(h:B≤B'):LogAt H B' Ω L c hd tk:=⟨A.o,A.t,Nat.le_trans A.b h,A.r,A.d,A.l,A.k,A.s⟩
theorem juq(A:LogAt H B Ω L c hd tk)(K:Ok H r)(hB:B≤1000000):∃ Ω',jej [.obj L,rowD r] Ω=some (.ok .non,Ω')∧LogAt H (B+1) Ω' L (bmp c r.h) hd (tk++[r])∧FrL L Ω Ω':=by
 have hl:=A.len
 have hb:=A.b
 let Ω1:=Ω.set (L+1) (.lst (tk.map rowD++[rowD r]))
 let Ω2:=Ω1.set (L+2) (.lst ((c.map D.int).set r.h (.int (c.getD r.h 0+1))))
 have e1:jfz (mGet ["Log"] "taken" (lF (fVar 0))) (lF (fVar 1)) [some (.obj L),some (rowD r)] Ω=some (.ok .non,Ω1) :=
  jrl (jrm (u_l rfl) A.o (lk_t L)) A.t (u_l rfl) (Nat.lt_of_le_of_lt (show (tk.map rowD).length≤1000000 by rw[List.length_map];omega) (by decide))
 have o1:Ω1[L]? = some (.ins "Log" (logF L)):=by rw[List.getElem?_set_ne (by omega)];exact A.o
 have r1:Ω1[L+2]? = some (.lst (c.map .int)):=by rw[List.getElem?_set_ne (by omega)];exact A.r
 have hc:r.h<c.length:=by rw[A.l];exact K.h
 have e2:jpa (mGet ["Log"] "reached" (lF (fVar 0))) (lF (f2 gIx (fVar 1) (fC (.int 0)))) (lF (fC (.int 1))) [some (.obj L),some (rowD r)] Ω1=some (.ok (.nx [some (.obj L),some (rowD r)]),Ω2) :=
  jAx (jrm (u_l rfl) o1 (lk_r L)) (u_l (by simp only[stp,jk2];rfl)) r1 (by rw[List.getElem?_map,List.getElem?_eq_getElem hc,List.getD_eq_getElem?_getD,List.getElem?_eq_getElem hc];rfl) (u_l rfl)
 refine⟨Ω2,?_,?_,(FrL.set (by omega) (by omega)).trans (FrL.set (by omega) (by omega))⟩
 ·unfold jej
  rw[jiq]
  show (MS.b (jei [some (.obj L),some (rowD r)]) outE) Ω=_
  have h:jei [some (.obj L),some (rowD r)] Ω=some (.ok (.nx [some (.obj L),some (rowD r)]),Ω2):=by
   unfold jei
   rw[ja5 (jes e1)]
   exact e2
  rw[v_b h];rfl
 ·refine⟨?_,?_,?_,?_,?_,by rw[je5];exact A.l,A.k,A.s⟩
  ·rw[List.getElem?_set_ne (by omega)];exact o1
  ·rw[List.getElem?_set_ne (by omega),List.getElem?_set_self (by omega),List.map_append];rfl
  ·rw[List.length_append];simp only[List.length_singleton];omega
  ·rw[List.getElem?_set_self (by rw[List.length_set];omega)]
   unfold bmp
   rw[List.map_set]
  ·rw[List.getElem?_set_ne (by omega),List.getElem?_set_ne (by omega)];exact A.d
noncomputable def hdD(hd:List Row):List (List Int×D):=hd.map fun r=>(keyR r,rowD r)
theorem je9:∀ (hd:List Row) (k:List Int),(jc6 (hdD hd) k=none∧∀ r∈hd,keyR r≠k)∨∃ r,r∈hd∧keyR r=k∧jc6 (hdD hd) k=some (rowD r)
 | [],k=>.inl ⟨rfl,fun _ h=>by cases h⟩
 | r::hd,k=>by
  by_cases e:keyR r=k
  ·refine .inr ⟨r,List.mem_cons_self,e,?_⟩
   unfold jc6 hdD
   rw[List.map_cons,List.find?_cons,decide_eq_true e];rfl
  ·have step:jc6 (hdD (r::hd)) k=jc6 (hdD hd) k:=by
    unfold jc6 hdD
    rw[List.map_cons,List.find?_cons,decide_eq_false e]
   rcases je9 hd k with ⟨h1,h2⟩|⟨q,h1,h2,h3⟩
   ·exact .inl ⟨by rw[step];exact h1,fun x hx=>by
     rcases List.mem_cons.mp hx with rfl|hx
     ·exact e
     ·exact h2 x hx⟩
   ·exact .inr ⟨q,List.mem_cons_of_mem _ h1,h2,by rw[step];exact h3⟩
theorem jt6(hd:List Row)(k:List Int):delD (hdD hd) k=hdD (hd.filter fun r=>decide (keyR r≠k)):=by
 unfold delD hdD
 rw[List.filter_map]
 rfl
theorem jke:∀ {hd:List Row} {r:Row},r∈hd→(hd.filter fun x=>decide (keyR x≠keyR r)).length<hd.length
 | x::hd,r,hr=>by
  rw[List.filter_cons]
  rcases List.mem_cons.mp hr with rfl|hr
  ·rw[if_neg (by simp),List.length_cons]
   exact Nat.lt_succ_of_le (List.length_filter_le _ _)
  ·have:=jke hr
   split
   ·rw[List.length_cons,List.length_cons];omega
   ·rw[List.length_cons];omega
theorem jic{c:List Int}{r:Row}(h:canT c r=true):r.n=c.getD r.h 0:=by
 unfold canT at h
 rw[Bool.and_eq_true,beq_iff_eq] at h
 exact h.1
noncomputable def KeysNd(hd:List Row):Prop:=∀ a∈hd,∀ b∈hd,keyR a=keyR b→a=b
inductive FstR(c:List Int)(hd:List Row):D→Prop
 | no (h:∀ q∈hd,canT c q=false):FstR c hd .non
 | yes (r:Row) (h1:r∈hd) (h2:canT c r=true) (h3:∀ q∈hd,canT c q=true→r.h≤q.h):FstR c hd (rowD r)
theorem jpn(A:LogAt H B Ω L c hd tk)(nd:KeysNd hd){i:Nat}(hi:i<c.length)(x3:Option D):((∀ q∈hd,canT c q=true→q.h≠i)∧∃ y3,jao [some (.obj L),some (.int (i:Int)),some (.int (c.getD i 0)),x3] Ω=some (.ok (.nx [some (.obj L),some (.int (i:Int)),some (.int (c.getD i 0)),y3]),Ω)) ∨
  ∃ r,r∈hd∧canT c r=true∧r.h=i∧jao [some (.obj L),some (.int (i:Int)),some (.int (c.getD i 0)),x3] Ω=some (.ok (.rt (rowD r)),Ω):=by
 have g:jsq (mGet ["Log"] "held" (lF (fVar 0))) (lF (jae (fVar 1) (jae (fVar 2) fNil))) [some (.obj L),some (.int (i:Int)),some (.int (c.getD i 0)),x3] Ω=some (.ok ((jc6 (hdD hd) [(i:Int),c.getD i 0]).getD .non),Ω):=by
  unfold jsq
  rw[v_b (hld A rfl),v_b (c_D A.d),v_b (show lF (jae (fVar 1) (jae (fVar 2) fNil)) _ Ω=some (.ok [.int (i:Int),.int (c.getD i 0)],Ω) from u_l rfl)]
  rw[jtv (g:=jym) A.d rfl,jdt A.d]
  rfl
 have key:∀ q,canT c q=true→q.h=i→keyR q=[(i:Int),c.getD i 0]:=fun q h1 h2=>by
  unfold keyR
  rw[jic h1,h2]
 unfold jao
 rcases je9 hd [(i:Int),c.getD i 0] with ⟨h1,h1'⟩|⟨r,h1,h2,h3⟩
 ·rw[h1] at g
  refine .inl ⟨fun q hq hc e=>h1' q hq (key q hc e),some .non,?_⟩
  rw[ja5 (jf4 g),u_if (jAw (a:=false) (b:=false) (u_l (by rfl)) (fun h=>by cases h)),Bool.false_and,if_neg (by decide)]
  rfl
 ·rw[h3] at g
  have K:=A.k r h1
  have rh:r.h=i:=by
   unfold keyR at h2
   rw[List.cons.injEq] at h2
   exact Int.ofNat.inj h2.1
  have m:mTru (jdh "Log" "can_take" ja4 (lF (fVar 0)) (lF (jae (fVar 3) fNil))) [some (.obj L),some (.int (i:Int)),some (.int (c.getD i 0)),some (rowD r)] Ω=some (.ok (canT c r),Ω) :=
   jmh (by rw[jet (u_l rfl) A.o (jhj L (by decide) (by decide) (by decide)) (u_l rfl)];exact jt1 A K)
  have tt:mAnd (lF (t2 jmv (fVar 3) (fC .non))) (mTru (jdh "Log" "can_take" ja4 (lF (fVar 0)) (lF (jae (fVar 3) fNil)))) [some (.obj L),some (.int (i:Int)),some (.int (c.getD i 0)),some (rowD r)] Ω=some (.ok (true&&canT c r),Ω):=jAw (u_l (by rfl)) fun _=>m
  cases hc:canT c r with
  | true =>
   rw[hc] at tt
   refine .inr ⟨r,h1,hc,rh,?_⟩
   rw[ja5 (show eSet 3 _ _ Ω=some (.ok (.nx [some (.obj L),some (.int (i:Int)),some (.int (c.getD i 0)),some (rowD r)]),Ω) from jf4 g),u_if tt]
   rfl
  | false =>
   rw[hc] at tt
   refine .inl ⟨fun q hq hcq e=>?_,some (rowD r),?_⟩
   ·have:=nd q hq r h1 ((key q hcq e).trans h2.symm)
    rw[this,hc] at hcq;cases hcq
   ·rw[ja5 (show eSet 3 _ _ Ω=some (.ok (.nx [some (.obj L),some (.int (i:Int)),some (.int (c.getD i 0)),some (rowD r)]),Ω) from jf4 g),u_if tt]
    rfl
theorem jkg(A:LogAt H B Ω L c hd tk)(nd:KeysNd hd):∀ (m i f:Nat) (x1 x2 x3:Option D),i+m=c.length→m<f →
  ((∀ q∈hd,canT c q=true→q.h<i)∧∃ δ',forL kEn jao (jcc 1 2) (L+2) f i [some (.obj L),x1,x2,x3] Ω=some (.ok (.nx δ'),Ω)) ∨
  ∃ r,r∈hd∧canT c r=true∧(∀ q∈hd,canT c q=true→i≤q.h→r.h≤q.h)∧forL kEn jao (jcc 1 2) (L+2) f i [some (.obj L),x1,x2,x3] Ω=some (.ok (.rt (rowD r)),Ω)
 | 0,i,f+1,x1,x2,x3,hm,_=>by
  refine .inl ⟨fun q hq _=>?_,[some (.obj L),x1,x2,x3],?_⟩
  ·have:=(A.k q hq).h
   rw[← A.l] at this;omega
  conv=>lhs;unfold forL
  rw[A.r]
  dsimp only
  rw[show (c.map D.int)[i]? = none from by rw[List.getElem?_eq_none_iff,List.length_map];omega]
 | m+1,i,f+1,x1,x2,x3,hm,hf=>by
  have hi:i<c.length:=by omega
  have step:forL kEn jao (jcc 1 2) (L+2) (f+1) i [some (.obj L),x1,x2,x3] Ω=((jao [some (.obj L),some (.int (i:Int)),some (.int (c.getD i 0)),x3]).b fun o=>match o with
     | .nx δ2=>forL kEn jao (jcc 1 2) (L+2) f (i+1) δ2
     | .ct δ2=>forL kEn jao (jcc 1 2) (L+2) f (i+1) δ2
     | .bk δ2=>MS.p (.nx δ2)
     | .rt v=>MS.p (.rt v)) Ω:=by
   conv=>lhs;unfold forL
   rw[A.r]
   dsimp only
   rw[show (c.map D.int)[i]? = some (.int (c.getD i 0)) from by rw[List.getElem?_map,List.getElem?_eq_getElem hi,List.getD_eq_getElem?_getD,List.getElem?_eq_getElem hi];rfl]
   rfl
  rw[step]
  rcases jpn A nd hi x3 with ⟨no,y3,e⟩|⟨r,h1,h2,h3,e⟩
  ·rw[v_b e]
   rcases jkg A nd m (i+1) f (some (.int (i:Int))) (some (.int (c.getD i 0))) y3 (by omega) (by omega) with ⟨z1,z2⟩|⟨r,z1,z2,z3,z4⟩
   ·refine .inl ⟨fun q hq hc=>?_,z2⟩
    have a1:=z1 q hq hc
    have a2:=no q hq hc
    omega
   ·refine .inr ⟨r,z1,z2,fun q hq hc hiq=>z3 q hq hc ?_,z4⟩
    have a2:=no q hq hc
    omega
  ·rw[v_b e]
   exact .inr ⟨r,h1,h2,fun q hq hc hiq=>by omega,rfl⟩
theorem jmu(A:LogAt H B Ω L c hd tk)(nd:KeysNd hd):∃ d,FstR c hd d∧jbk [.obj L] Ω=some (.ok d,Ω):=by
 unfold jbk
 rw[jip]
 show ∃ d,FstR c hd d∧(MS.b (ja2 [some (.obj L),none,none,none]) outE) Ω=_
 have it:jr5 kEn (jar (mGet ["Log"] "reached" (lF (fVar 0))) (lF fNil)) (jcc 1 2) jao FUEL [some (.obj L),none,none,none] Ω=forL kEn jao (jcc 1 2) (L+2) FUEL 0 [some (.obj L),none,none,none] Ω:=by
  unfold jr5
  rw[v_b (jav (rch A rfl) (u_l rfl))]
  dsimp only
  have ck:chkL (.obj (L+2)) Ω=some (.ok (.obj (L+2)),Ω):=by unfold chkL;dsimp only;rw[A.r]
  rw[v_b ck]
  rfl
 rcases jkg A nd c.length 0 FUEL none none none (by omega) (by rw[jlf,A.l];have:=A.s;omega) with ⟨no,δ',e⟩|⟨r,h1,h2,h3,e⟩
 ·refine⟨.non,.no fun q hq=>?_,?_⟩
  ·cases hc:canT c q with
   | false=>rfl
   | true=>exact absurd (no q hq hc) (Nat.not_lt_zero _)
  have h:ja2 [some (.obj L),none,none,none] Ω=some (.ok (.rt .non),Ω):=by
   unfold ja2
   rw[ja5 (it.trans e)]
   exact u_l rfl
  rw[v_b h];rfl
 ·refine⟨rowD r,.yes r h1 h2 (fun q hq hc=>h3 q hq hc (Nat.zero_le _)),?_⟩
  have h:ja2 [some (.obj L),none,none,none] Ω=some (.ok (.rt (rowD r)),Ω):=by
   unfold ja2
   exact u_rt (it.trans e)
  rw[v_b h];rfl
noncomputable def jfe(hd:List Row)(r:Row):List Row:=hd.filter fun x=>decide (keyR x≠keyR r)
theorem KeysNd.drop(h:KeysNd hd)(r:Row):KeysNd (jfe hd r):=fun a ha b hb e=>h a (List.mem_filter.mp ha).1 b (List.mem_filter.mp hb).1 e
theorem jzz(A:LogAt H B Ω L c hd tk)(hr:r∈hd):∃ Ω',(∃ d,jsr (mGet ["Log"] "held" (lF (fVar 0))) (lF (jae (f2 gIx (fVar 1) (fC (.int 0))) (jae (f2 gIx (fVar 1) (fC (.int 1))) fNil))) [some (.obj L),some (rowD r)] Ω=some (.ok d,Ω'))∧LogAt H (B-1) Ω' L c (jfe hd r) tk∧FrL L Ω Ω':=by
 have hl:=A.len
 have hb:=A.b
 have fl:=jke hr
 rcases je9 hd (keyR r) with ⟨_,h2⟩|⟨q,h1,h2,h3⟩
 ·exact absurd rfl (h2 r hr)
 ·refine⟨Ω.set (L+3) (.dct (hdD (jfe hd r))),⟨rowD q,?_⟩,?_,FrL.set (by omega) (by omega)⟩
  ·unfold jsr
   rw[v_b (hld A rfl),v_b (c_D A.d),v_b (show lF (jae (f2 gIx (fVar 1) (fC (.int 0))) (jae (f2 gIx (fVar 1) (fC (.int 1))) fNil)) [some (.obj L),some (rowD r)] Ω=some (.ok [.int (r.h:Int),.int r.n],Ω) from u_l (by simp only[stp,jk2,jod];rfl))]
   rw[jtv (g:=jja) (d:=rowD q) (kvs':=delD (hdD hd) (keyR r)) A.d (by
    show jja (hdD hd) (keyR r)=_
    unfold jja
    rw[h3];rfl),jt6]
   rfl
  ·refine⟨by rw[List.getElem?_set_ne (by omega)];exact A.o,by rw[List.getElem?_set_ne (by omega)];exact A.t,by unfold jfe;omega,by rw[List.getElem?_set_ne (by omega)];exact A.r,by rw[List.getElem?_set_self hl];rfl,A.l,fun x hx=>A.k x (List.mem_filter.mp hx).1,A.s⟩
theorem jhy{t:DSt→MS Bool}{g:DSt→MS Out}{k:Nat}{δ δ':DSt}{Ω Ω1:Sto}(h1:t δ Ω=some (.ok true,Ω))(h2:g δ Ω=some (.ok (.nx δ'),Ω1)):jdl t g (k+1) δ Ω=jdl t g k δ' Ω1:=by
 conv=>lhs;unfold jdl
 rw[v_b h1,if_pos rfl,v_b h2]
theorem jiu{t:DSt→MS Bool}{g:DSt→MS Out}{k:Nat}{δ:DSt}{Ω:Sto}(h1:t δ Ω=some (.ok false,Ω)):jdl t g (k+1) δ Ω=some (.ok (.nx δ),Ω):=by
 conv=>lhs;unfold jdl
 rw[v_b h1,if_neg (by decide)]
 rfl
inductive Flush:List Int→List Row→List Row→List Int→List Row→List Row→Prop
 | done {c:List Int} {hd tk:List Row} (h:∀ q∈hd,canT c q=false):Flush c hd tk c hd tk
 | step {c:List Int} {hd tk:List Row} {c':List Int} {hd' tk':List Row} (r:Row) (h1:r∈hd) (h2:canT c r=true) (h3:∀ q∈hd,canT c q=true→r.h≤q.h) (h4:Flush (bmp c r.h) (jfe hd r) (tk++[r]) c' hd' tk'):Flush c hd tk c' hd' tk'
theorem jie{H L B:Nat}(hB:B≤1000000):∀ (m:Nat) (f:Nat) (Ω:Sto) (c:List Int) (hd tk:List Row) (d:D),hd.length≤m→m<f→LogAt H B Ω L c hd tk→KeysNd hd→FstR c hd d →
  ∃ d' Ω' c' hd' tk',jdl jc0 jbz f [some (.obj L),some d] Ω=some (.ok (.nx [some (.obj L),some d']),Ω')∧LogAt H B Ω' L c' hd' tk'∧FrL L Ω Ω'∧Flush c hd tk c' hd' tk'
 | m,f+1,Ω,c,hd,tk,_,hm,hf,A,nd,.no h=>⟨.non,Ω,c,hd,tk,jiu (u_l rfl),A,FrL.refl _ _,.done h⟩
 | 0,f+1,Ω,c,hd,tk,_,hm,hf,A,nd,.yes r h1 h2 h3=>by
  have:hd=[]:=List.eq_nil_of_length_eq_zero (by omega)
  rw[this] at h1;cases h1
 | m+1,f+1,Ω,c,hd,tk,_,hm,hf,A,nd,.yes r h1 h2 h3=>by
  obtain⟨Ω1,⟨dd,e1⟩,A1,f1⟩:=jzz A h1
  obtain⟨Ω2,e2,A2,f2⟩:=juq A1 (A.k r h1) (by omega)
  have hb:B-1+1≤B:=by
   have:=A.b
   have:0<hd.length:=List.length_pos_of_mem h1
   omega
  have A2':=A2.mono hb
  obtain⟨d3,F3,e3⟩:=jmu A2' (nd.drop r)
  have fl:=jke h1
  obtain⟨d',Ω',c',hd',tk',e',A',f',F'⟩:=jie hB m f Ω2 _ _ _ d3 (by unfold jfe;omega) (by omega) A2' (nd.drop r) F3
  refine⟨d',Ω',c',hd',tk',?_,A',(f1.trans f2).trans f',.step r h1 h2 h3 F'⟩
  have body:jbz [some (.obj L),some (rowD r)] Ω=some (.ok (.nx [some (.obj L),some d3]),Ω2):=by
   unfold jbz
   rw[ja5 (jes e1),ja5 (jes (by rw[jet (u_l rfl) A1.o (jhj L (by decide) (by decide) (by decide)) (u_l rfl)];exact e2))]
   exact jf4 (by rw[jet (u_l rfl) A2.o (jhj L (by decide) (by decide) (by decide)) (u_l rfl)];exact e3)
  rw[jhy (show jc0 _ Ω=some (.ok true,Ω) from u_l rfl) body]
  exact e'
theorem jsb(A:LogAt H B Ω L c hd tk)(nd:KeysNd hd)(hB:B≤10000):∃ Ω' c' hd' tk',jb9 [.obj L] Ω=some (.ok .non,Ω')∧LogAt H B Ω' L c' hd' tk'∧FrL L Ω Ω'∧Flush c hd tk c' hd' tk':=by
 obtain⟨d,F,e⟩:=jmu A nd
 have hb:=A.b
 obtain⟨d',Ω',c',hd',tk',e',A',f',F'⟩:=jie (by omega) hd.length FUEL Ω c hd tk d (Nat.le_refl _) (by rw[jlf];omega) A nd F
 refine⟨Ω',c',hd',tk',?_,A',f',F'⟩
 unfold jb9
 rw[jip]
 show (MS.b (jbt [some (.obj L),none]) outE) Ω=_
 have h:jbt [some (.obj L),none] Ω=some (.ok (.nx [some (.obj L),some d']),Ω'):=by
  unfold jbt
  rw[ja5 (jf4 (by rw[jet (u_l rfl) A.o (jhj L (by decide) (by decide) (by decide)) (u_l rfl)];exact e))]
  exact e'
 rw[v_b h];rfl
inductive Took(c:List Int)(hd tk:List Row)(r:Row):Str→List Int→List Row→List Row→Prop
 | known (h:r.n<c.getD r.h 0):Took c hd tk r (Str.ofString "known") c hd tk
 | old (h0:¬ r.n<c.getD r.h 0) (h1:canT c r=false) (q:Row) (h2:q∈hd) (h3:keyR q=keyR r):Took c hd tk r (Str.ofString "waits") c hd tk
 | new (h0:¬ r.n<c.getD r.h 0) (h1:canT c r=false) (h2:∀ q∈hd,keyR q≠keyR r):Took c hd tk r (Str.ofString "waits") c (hd++[r]) tk
 | taken {c':List Int} {hd' tk':List Row} (h1:canT c r=true) (h2:Flush (bmp c r.h) hd (tk++[r]) c' hd' tk'):Took c hd tk r (Str.ofString "taken") c' hd' tk'
theorem jxg(A:LogAt H B Ω L c hd tk)(nd:KeysNd hd)(K:Ok H r)(hB:B+1≤10000):∃ w:Str,∃ Ω' c' hd' tk',jdb [.obj L,rowD r] Ω=some (.ok (.str w),Ω')∧LogAt H (B+1) Ω' L c' hd' tk'∧FrL L Ω Ω'∧Took c hd tk r w c' hd' tk':=by
 have ix:mIxL (mGet ["Log"] "reached" (lF (fVar 0))) (lF (f2 gIx (fVar 1) (fC (.int 0)))) [some (.obj L),some (rowD r)] Ω=some (.ok (.int (c.getD r.h 0)),Ω) :=
  jlc (rch A rfl) (u_l (by simp only[stp,jk2];rfl)) A.r (at_c (by rw[A.l];exact K.h))
 have tst:mB (m2 gLt (lF (f2 gIx (fVar 1) (fC (.int 1)))) (mIxL (mGet ["Log"] "reached" (lF (fVar 0))) (lF (f2 gIx (fVar 1) (fC (.int 0)))))) [some (.obj L),some (rowD r)] Ω=some (.ok (decide (r.n<c.getD r.h 0)),Ω) :=
  u_B (u_2 (u_l (by simp only[stp,jod];rfl)) ix (lt_int _ _))
 have can:mNot (mTru (jdh "Log" "can_take" ja4 (lF (fVar 0)) (lF (jae (fVar 1) fNil)))) [some (.obj L),some (rowD r)] Ω=some (.ok !(canT c r),Ω) :=
  jrn (jmh (by rw[jet (u_l rfl) A.o (jhj L (by decide) (by decide) (by decide)) (u_l rfl)];exact jt1 A K))
 have fin:∀ {w:Str} {Ω':Sto},jcg [some (.obj L),some (rowD r)] Ω=some (.ok (.rt (.str w)),Ω')→jdb [.obj L,rowD r] Ω=some (.ok (.str w),Ω'):=fun {w Ω'} h=>by
  unfold jdb
  rw[jiq]
  show (MS.b (jcg [some (.obj L),some (rowD r)]) outE) Ω=_
  rw[v_b h];rfl
 by_cases h1:r.n<c.getD r.h 0
 ·rw[decide_eq_true h1] at tst
  refine⟨Str.ofString "known",Ω,c,hd,tk,fin ?_,A.mono (by omega),FrL.refl _ _,.known h1⟩
  unfold jcg
  exact jhx tst (u_l rfl)
 ·rw[decide_eq_false h1] at tst
  cases hc:canT c r with
  | false =>
   rw[hc] at can
   have sd:∃ Ω' hd',(∃ d,mSdD (mGet ["Log"] "held" (lF (fVar 0))) (lF (jae (f2 gIx (fVar 1) (fC (.int 0))) (jae (f2 gIx (fVar 1) (fC (.int 1))) fNil))) (lF (fVar 1)) [some (.obj L),some (rowD r)] Ω=some (.ok d,Ω'))∧LogAt H (B+1) Ω' L c hd' tk∧FrL L Ω Ω'∧Took c hd tk r (Str.ofString "waits") c hd' tk:=by
    have hl:=A.len
    have hb:=A.b
    have hz:(hdD hd).length<sizeLine:=by
     unfold hdD
     rw[List.length_map]
     exact Nat.lt_of_le_of_lt (show hd.length≤10000 by omega) (by decide)
    have pre:∀ {d:D} {kvs'},gSdD (rowD r) (hdD hd) (keyR r)=some (d,kvs')→mSdD (mGet ["Log"] "held" (lF (fVar 0))) (lF (jae (f2 gIx (fVar 1) (fC (.int 0))) (jae (f2 gIx (fVar 1) (fC (.int 1))) fNil))) (lF (fVar 1)) [some (.obj L),some (rowD r)] Ω=some (.ok d,Ω.set (L+3) (.dct kvs')):=fun {d kvs'} hg=>by
     unfold mSdD
     rw[v_b (hld A rfl),v_b (c_D A.d),v_b (show lF (jae (f2 gIx (fVar 1) (fC (.int 0))) (jae (f2 gIx (fVar 1) (fC (.int 1))) fNil)) [some (.obj L),some (rowD r)] Ω=some (.ok [.int (r.h:Int),.int r.n],Ω) from u_l (by simp only[stp,jk2,jod];rfl))]
     unfold js9
     dsimp only
     rw[v_b (show lF (fVar 1) [some (.obj L),some (rowD r)] Ω=some (.ok (rowD r),Ω) from u_l rfl)]
     exact jtv (g:=gSdD (rowD r)) A.d hg
    rcases je9 hd (keyR r) with ⟨z1,z2⟩|⟨q,z1,z2,z3⟩
    ·refine⟨Ω.set (L+3) (.dct (hdD (hd++[r]))),hd++[r],⟨rowD r,?_⟩,?_,FrL.set (by omega) (by omega),.new h1 hc z2⟩
     ·rw[pre (d:=rowD r) (kvs':=hdD hd++[(keyR r,rowD r)]) (by unfold gSdD;rw[if_pos hz,z1])]
      unfold hdD
      rw[List.map_append];rfl
     ·refine⟨by rw[List.getElem?_set_ne (by omega)];exact A.o,by rw[List.getElem?_set_ne (by omega)];exact A.t,by rw[List.length_append];simp only[List.length_singleton];omega,by rw[List.getElem?_set_ne (by omega)];exact A.r,by rw[List.getElem?_set_self hl];rfl,A.l,fun x hx=>?_,A.s⟩
      rcases List.mem_append.mp hx with hx|hx
      ·exact A.k x hx
      ·rw[List.mem_singleton.mp hx];exact K
    ·refine⟨Ω.set (L+3) (.dct (hdD hd)),hd,⟨rowD q,pre (by unfold gSdD;rw[if_pos hz,z3])⟩,?_,FrL.set (by omega) (by omega),.old h1 hc q z1 z2⟩
     have:Ω.set (L+3) (.dct (hdD hd))=Ω:=jdt A.d
     rw[this]
     exact A.mono (by omega)
   obtain⟨Ω',hd',⟨d,e⟩,A',f',T'⟩:=sd
   refine⟨Str.ofString "waits",Ω',c,hd',tk,fin ?_,A',f',T'⟩
   unfold jcg
   rw[jdu tst]
   refine jhx can ?_
   rw[ja5 (jes e)]
   exact u_l rfl
  | true =>
   rw[hc] at can
   obtain⟨Ω1,e1,A1,f1⟩:=juq A K (by omega)
   obtain⟨Ω2,c2,hd2,tk2,e2,A2,f2,F2⟩:=jsb A1 nd hB
   refine⟨Str.ofString "taken",Ω2,c2,hd2,tk2,fin ?_,A2,f1.trans f2,.taken hc F2⟩
   unfold jcg
   rw[jdu tst,jdu can]
   rw[ja5 (jes (by rw[jet (u_l rfl) A.o (jhj L (by decide) (by decide) (by decide)) (u_l rfl)];exact e1))]
   rw[ja5 (jes (by rw[jet (u_l rfl) A1.o (jhj L (by decide) (by decide) (by decide)) (u_l rfl)];exact e2))]
   exact u_l rfl
theorem jny(A:LogAt H B Ω L c hd tk):jcs [.obj L] Ω=some (.ok (.tup (c.map .int)),Ω):=by
 unfold jcs
 rw[jip]
 show (MS.b (jco [some (.obj L)]) outE) Ω=_
 have h:jco [some (.obj L)] Ω=some (.ok (.rt (.tup (c.map .int))),Ω):=by
  unfold jco
  refine jol ?_
  show (MS.b (jar (mGet ["Log"] "reached" (lF (fVar 0))) (lF fNil) [some (.obj L)]) tupS) Ω=_
  rw[v_b (jav (rch A rfl) (u_l rfl))]
  unfold tupS
  dsimp only
  rw[A.r]
  dsimp only
  rw[if_pos (jdk c)]
 rw[v_b h];rfl
end
end
noncomputable section
noncomputable def jdq(c:List Int):List Row→Bool
 | []=>true
 | r::rs=>canT c r&&jdq (bmp c r.h) rs
noncomputable def cnt(c:List Int)(rs:List Row):List Int:=rs.foldl (fun c r=>bmp c r.h) c
theorem je2{c:List Int}{h k:Nat}(hh:h<c.length):(bmp c h).getD k 0=if k=h then c.getD h 0+1 else c.getD k 0:=by
 unfold bmp
 rw[List.getD_eq_getElem?_getD,List.getElem?_set]
 by_cases e:h=k
 ·subst e
  rw[if_pos rfl,if_pos hh,if_pos rfl];rfl
 ·rw[if_neg e,if_neg (fun z=>e z.symm),List.getD_eq_getElem?_getD]
theorem jr0(c:List Int)(rs:List Row)(r:Row):cnt c (rs++[r])=bmp (cnt c rs) r.h:=by unfold cnt;rw[List.foldl_append];rfl
theorem jki(as bs:List Row):∀ c:List Int,jdq c (as++bs)=(jdq c as&&jdq (cnt c as) bs):=by
 induction as with
 | nil=>intro c;rfl
 | cons a as ih =>
  intro c
  show (canT c a&&jdq (bmp c a.h) (as++bs))=((canT c a&&jdq (bmp c a.h) as)&&jdq (cnt (bmp c a.h) as) bs)
  rw[ih,Bool.and_assoc]
theorem jrz{c:List Int}{r:Row}(hl:r.cs.length=c.length):canT c r=true↔r.n=c.getD r.h 0∧∀ k,k<c.length→r.cs.getD k 0≤c.getD k 0:=by
 unfold canT
 rw[Bool.and_eq_true,beq_iff_eq,List.all_eq_true]
 refine and_congr Iff.rfl ⟨fun h k hk=>?_,fun h p hp=>?_⟩
 ·have e:=h (r.cs.getD k 0,c.getD k 0) (by
   refine List.mem_iff_getElem?.mpr ⟨k,?_⟩
   rw[List.getElem?_zip_eq_some]
   rw[List.getD_eq_getElem?_getD,List.getD_eq_getElem?_getD,List.getElem?_eq_getElem (show k<r.cs.length by omega),List.getElem?_eq_getElem hk]
   exact⟨rfl,rfl⟩)
  exact of_decide_eq_true e
 ·obtain⟨k,hk⟩:=List.getElem?_of_mem hp
  have hk':k<(r.cs.zip c).length:=(List.getElem?_eq_some_iff.mp hk).1
  rw[List.length_zip] at hk'
  have e:=h k (by omega)
  obtain⟨_,e'⟩:=List.getElem?_eq_some_iff.mp hk
  rw[List.getElem_zip] at e'
  rw[List.getD_eq_getElem?_getD,List.getElem?_eq_getElem (by omega),List.getD_eq_getElem?_getD,List.getElem?_eq_getElem (by omega)] at e
  rw[← e',decide_eq_true_eq]
  exact e
section
variable {H:Nat}
theorem jmp:∀ (rs:List Row) (c:List Int),c.length=H→(∀ r∈rs,Ok H r)→∀ k,c.getD k 0≤(cnt c rs).getD k 0
 | [],c,_,_,k=>Int.le_refl _
 | a::as,c,hl,hk,k=>by
  have ha:=(hk a List.mem_cons_self).h
  have:=jmp as (bmp c a.h) (by rw[je5];exact hl) (fun r hr=>hk r (List.mem_cons_of_mem _ hr)) k
  rw[je2 (by rw[hl];exact ha)] at this
  show _≤(cnt (bmp c a.h) as).getD k 0
  split at this<;>(try subst_vars)<;>omega
theorem jut:∀ (rs:List Row) (c:List Int),c.length=H→(∀ r∈rs,Ok H r)→jdq c rs=true→∀ r∈rs,c.getD r.h 0≤r.n∧r.n<(cnt c rs).getD r.h 0
 | a::as,c,hl,hk,h,r,hr=>by
  have h':(canT c a&&jdq (bmp c a.h) as)=true:=h
  rw[Bool.and_eq_true] at h'
  have ha:=(hk a List.mem_cons_self).h
  have hb:(bmp c a.h).length=H:=by rw[je5];exact hl
  have hk':∀ r∈as,Ok H r:=fun r hr=>hk r (List.mem_cons_of_mem _ hr)
  rcases List.mem_cons.mp hr with rfl|hr
  ·have m:=jmp as (bmp c r.h) hb hk' r.h
   rw[je2 (by rw[hl];exact ha),if_pos rfl] at m
   have e:=jic h'.1
   exact⟨by omega,by show r.n<(cnt (bmp c r.h) as).getD r.h 0;omega⟩
  ·obtain⟨e1,e2⟩:=jut as (bmp c a.h) hb hk' h'.2 r hr
   rw[je2 (by rw[hl];exact ha)] at e1
   refine⟨?_,e2⟩
   split at e1
   ·rename_i z;rw[z];omega
   ·exact e1
theorem jpv{rs:List Row}(h:(rs.map keyR).Nodup):KeysNd rs:=by
 intro a ha b hb e
 obtain⟨i,hi,rfl⟩:=List.getElem_of_mem ha
 obtain⟨j,hj,rfl⟩:=List.getElem_of_mem hb
 have:=(List.getElem_inj (xs:=rs.map keyR) (h₀:=by rw[List.length_map];exact hi) (h₁:=by rw[List.length_map];exact hj) h).mp (by rw[List.getElem_map,List.getElem_map];exact e)
 subst this;rfl
theorem jus:∀ (rs:List Row) (c:List Int) (m:Int),c.length=H→(∀ r∈rs,Ok H r)→jdq c rs=true→(∀ k,c.getD k 0≤m)→∀ r∈rs,r.n<m+rs.length
 | a::as,c,m,hl,hk,h,hm,r,hr=>by
  have h':(canT c a&&jdq (bmp c a.h) as)=true:=h
  rw[Bool.and_eq_true] at h'
  have ha:=(hk a List.mem_cons_self).h
  rw[List.length_cons]
  rcases List.mem_cons.mp hr with rfl|hr
  ·have:=jic h'.1
   have:=hm r.h
   omega
  ·have:=jus as (bmp c a.h) (m+1) (by rw[je5];exact hl) (fun r hr=>hk r (List.mem_cons_of_mem _ hr)) h'.2 (fun k=>by
    rw[je2 (by rw[hl];exact ha)]
    have:=hm k
    have:=hm a.h
    split<;>omega) r hr
   omega
end
end
noncomputable section
noncomputable abbrev ja7(rs:List Row):D:=.lst (rs.map rowD)
theorem jd7(Ω xs:Sto)(k:Nat):(Ω++xs)[Ω.length+k]? = xs[k]?:=by
 rw[List.getElem?_append_right (by omega)];congr 1;omega
theorem jor(Ω xs:Sto)(k:Nat)(y:SO):(Ω++xs).set (Ω.length+k) y=Ω++xs.set k y:=by
 rw[List.set_append_right _ _ (by omega)];congr 2;omega
theorem jxl{f:Str}{fo fv:DSt→MS D}{δ:DSt}{Ω Ω1 Ω2:Sto}{i:Nat}{fs:List (Str×D)}{d:D}(h1:fv δ Ω=some (.ok d,Ω1))(h2:fo δ Ω1=some (.ok (.obj i),Ω1))(h3:Ω1[i]? = some (.ins "Log" fs))(h4:fs.length<1000)(h5:Ω1.set i (.ins "Log" (putD f d fs))=Ω2):ePut ["Log"] f fo fv δ Ω=some (.ok (.nx δ),Ω2):=by
 unfold ePut
 rw[v_b h1,v_b h2]
 have:putO ["Log"] f (.obj i) d Ω1=some (.ok (),Ω1.set i (.ins "Log" (putD f d fs))):=by
  unfold putO
  dsimp only
  rw[h3]
  dsimp only
  rw[if_pos]
  rw[Bool.and_eq_true,decide_eq_true_eq]
  exact⟨by decide,h4⟩
 rw[v_b this,h5]
 rfl
theorem jht(n:Nat)(x:D):(List.replicate n [x]).flatten=List.replicate n x:=DL.rep_flat x n
theorem jvt{H:Nat}(Ω:Sto)(hH:H≤1000):jb4 [.obj Ω.length,.int (H:Int)] (Ω++[.ins "Log" []])=some (.ok .non,Ω++[.ins "Log" (logF Ω.length),.lst [],.lst (List.replicate H (.int 0)),.dct []]):=by
 let δ:DSt:=[some (.obj Ω.length),some (.int (H:Int))]
 have e1:ePut ["Log"] "taken" (lF (fVar 0)) (jkm (lF fNil)) δ (Ω++[.ins "Log" []])=some (.ok (.nx δ),Ω++[.ins "Log" [("taken",.obj (Ω.length+1))],.lst []]):=by
  refine jxl (d:=.obj (Ω.length+1)) (Ω1:=Ω++[.ins "Log" [],.lst []]) (i:=Ω.length) (fs:=[]) ?_ (u_l rfl) ?_ (by decide) ?_
  ·unfold jkm
   rw[v_b (show lF fNil δ _=some (.ok [],_) from u_l rfl)]
   show (if ([]:List D).length≤sizeLine then _ else _)=_
   rw[if_pos (show ([]:List D).length≤sizeLine from Nat.zero_le _),List.append_assoc,List.length_append]
   rfl
  ·exact jd7 Ω _ 0
  ·exact jor Ω _ 0 _
 have e2:ePut ["Log"] "reached" (lF (fVar 0)) (jh4 (lF (jae (fC (.int 0)) fNil)) (lF (fVar 1))) δ (Ω++[.ins "Log" [("taken",.obj (Ω.length+1))],.lst []])=some (.ok (.nx δ),Ω++[.ins "Log" [("taken",.obj (Ω.length+1)),("reached",.obj (Ω.length+2))],.lst [],.lst (List.replicate H (.int 0))]):=by
  refine jxl (d:=.obj (Ω.length+2)) (Ω1:=Ω++[.ins "Log" [("taken",.obj (Ω.length+1))],.lst [],.lst (List.replicate H (.int 0))]) (i:=Ω.length) (fs:=[("taken",.obj (Ω.length+1))]) ?_ (u_l rfl) ?_ (by show 1<1000;decide) ?_
  ·unfold jh4
   rw[v_b (show lF (jae (fC (.int 0)) fNil) δ _=some (.ok [.int 0],_) from u_l rfl),if_pos (show [D.int 0].length≤sizeLine by decide),v_b (show lF (fVar 1) δ _=some (.ok (.int (H:Int)),_) from u_l rfl)]
   dsimp only
   rw[if_pos ⟨by omega,by omega,by rw[Int.toNat_natCast];simp only[List.length_singleton];exact Nat.le_trans (show 1*H≤1000 by omega) (by decide)⟩,Int.toNat_natCast,jht]
   unfold jfp
   rw[if_pos (by rw[List.length_replicate];exact Nat.le_trans hH (by decide)),List.append_assoc,List.length_append]
   rfl
  ·exact jd7 Ω _ 0
  ·exact (jor Ω _ 0 _).trans (by congr 2)
 have e3:ePut ["Log"] "held" (lF (fVar 0)) jkl δ (Ω++[.ins "Log" [("taken",.obj (Ω.length+1)),("reached",.obj (Ω.length+2))],.lst [],.lst (List.replicate H (.int 0))])=some (.ok (.nx δ),Ω++[.ins "Log" (logF Ω.length),.lst [],.lst (List.replicate H (.int 0)),.dct []]):=by
  refine jxl (d:=.obj (Ω.length+3)) (Ω1:=Ω++[.ins "Log" [("taken",.obj (Ω.length+1)),("reached",.obj (Ω.length+2))],.lst [],.lst (List.replicate H (.int 0)),.dct []]) (i:=Ω.length) (fs:=[("taken",.obj (Ω.length+1)),("reached",.obj (Ω.length+2))]) ?_ (u_l rfl) ?_ (by show 2<1000;decide) ?_
  ·unfold jkl
   rw[List.append_assoc,List.length_append]
   rfl
  ·exact jd7 Ω _ 0
  ·exact (jor Ω _ 0 _).trans (by congr 2)
 unfold jb4
 rw[jiq]
 show (MS.b (jcp δ) outE) _=_
 have h:jcp δ (Ω++[.ins "Log" []])=some (.ok (.nx δ),Ω++[.ins "Log" (logF Ω.length),.lst [],.lst (List.replicate H (.int 0)),.dct []]):=by
  unfold jcp
  rw[ja5 e1,ja5 e2]
  exact e3
 rw[v_b h];rfl
theorem jqk{H:Nat}(Ω:Sto)(hH:H≤1000):LogAt H 0 (Ω++[.ins "Log" (logF Ω.length),.lst [],.lst (List.replicate H (.int 0)),.dct []]) Ω.length (List.replicate H 0) [] [] :=
 ⟨jd7 Ω _ 0,jd7 Ω _ 1,Nat.le_refl _,(jd7 Ω _ 2).trans (by rw[List.map_replicate];rfl),jd7 Ω _ 3,List.length_replicate,(fun _ h=>nomatch h),hH⟩
theorem jmz{H:Nat}{δ:DSt}{fl:DSt→MS (List D)}(Ω:Sto)(hH:H≤1000)(h:fl δ Ω=some (.ok [.int (H:Int)],Ω)):jnz "Log" jb4 fl δ Ω=some (.ok (.obj Ω.length),Ω++[.ins "Log" (logF Ω.length),.lst [],.lst (List.replicate H (.int 0)),.dct []]):=by
 unfold jnz
 rw[v_b h]
 unfold jqa
 rw[v_b (jvt Ω hH)]
 rfl
theorem LogAt.app{H B L:Nat}{Ω:Sto}{c:List Int}{hd tk:List Row}(A:LogAt H B Ω L c hd tk)(xs:Sto):LogAt H B (Ω++xs) L c hd tk:=by
 have hl:=A.len
 have g:∀ i,i≤L+3→(Ω++xs)[i]? = Ω[i]?:=fun i hi=>List.getElem?_append_left (by omega)
 exact⟨(g _ (by omega)).trans A.o,(g _ (by omega)).trans A.t,A.b,(g _ (by omega)).trans A.r,(g _ (by omega)).trans A.d,A.l,A.k,A.s⟩
theorem jxw{c:DSt}{tc:DSt→M Bool}{fe:DSt→M D}{p:D→Bool}:∀ (ds:List D) (x:Option D),(∀ d∈ds,tc (some d::c)=some (.ok (p d))∧fe (some d::c)=some (.ok d))→jbx (DL.gName 0) tc fe ds (x::c)=some (ds.filter p)
 | [],_,_=>rfl
 | d::ds,x,h=>by
  obtain⟨h1,h2⟩:=h d List.mem_cons_self
  have ih:=jxw ds (some d) fun y hy=>h y (List.mem_cons_of_mem _ hy)
  conv=>lhs;unfold jbx
  show (match tc (some d::c) with
   | some (.ok true)=>(match fe (some d::c) with
    | some (.ok y)=>(jbx (DL.gName 0) tc fe ds (some d::c)).map (y::·)
    | _=>none)
   | some (.ok false)=>jbx (DL.gName 0) tc fe ds (some d::c)
   | _=>none)=_
  rw[h1,List.filter_cons]
  cases hp:p d with
  | true =>
   dsimp only
   rw[h2,ih,if_pos rfl]
   rfl
  | false =>
   dsimp only
   rw[ih,if_neg (by decide)]
end
noncomputable section
noncomputable abbrev scr(ns:List Int):D:=.lst (ns.map .int)
theorem jA2(ns:List Int)(k:Int)(h0:0≤k):∃ i,jau [scr ns,.int k]=some (.ok (.int i)):=by
 unfold jau
 rw[jpe]
 unfold jd5
 obtain⟨k,rfl⟩:=Int.eq_ofNat_of_zero_le h0
 by_cases h:k<ns.length
 ·refine⟨ns[k],?_⟩
  have h2:((k:Int)<(ns.length:Int)):=by omega
  simp[h2,DL.atI_get (xs:=ns.map D.int) (j:=k) (v:=.int ns[k]) (by simp[h]),M.p]
 ·refine⟨0,?_⟩
  have h2:¬ ((k:Int)<(ns.length:Int)):=by omega
  simp[h2,M.p]
noncomputable def jgd(ns:List Int)(k:Int):Int:=getI (jau [scr ns,.int k])
theorem jnk{ns:List Int}{k:Int}(h0:0≤k):jau [scr ns,.int k]=some (.ok (.int (jgd ns k))):=let ⟨_,h⟩:=jA2 ns k h0;jpk h
theorem jA3(n p:Int)(h0:0≤p)(hp:p≤1000):∃ r,jbu [.int n,.int p]=some (.ok (.int r))∧0≤r∧r<2147483648:=by
 unfold jbu
 rw[jpe]
 unfold jg9
 have h1:=Int.emod_nonneg n (show (1000003:Int)≠0 by decide)
 have h2:=Int.emod_lt_of_pos n (show (0:Int)<1000003 by decide)
 have bp:Bt 10 p:=by unfold Bt;omega
 have a1:jg8 (.int p) (.int p)=some (.int (p*p)):=jji bp bp
 have b1:Bt 20 (p*p):=bp.mul bp
 have a2:jg8 (.int (p*p)) (.int 7919)=some (.int (p*p*7919)):=jji (b:=13) b1 (by unfold Bt;decide)
 have b2:Bt 33 (p*p*7919):=Bt.mul (b:=13) b1 (by unfold Bt;decide)
 have b3:Bt 35 (n % 1000003+p*p*7919+p):=(Bt.add (a:=33) (by unfold Bt;omega) b2).add (bp.mono (by decide))
 have a3:jg8 (.int (n % 1000003+p*p*7919+p)) (.int 48271)=some (.int ((n % 1000003+p*p*7919+p)*48271)):=jji (b:=16) b3 (by unfold Bt;decide)
 generalize hx:(n % 1000003+p*p*7919+p)*48271 % 2147483629=x
 have x1:0≤x:=by rw[← hx];exact Int.emod_nonneg _ (by decide)
 have x2:x<2147483629:=by rw[← hx];exact Int.emod_lt_of_pos _ (by decide)
 have bx:Bt 32 x:=by unfold Bt;omega
 have a4:jg8 (.int x) (.int x)=some (.int (x*x)):=jji bx bx
 generalize hy:x*x % 2147483587=y
 have y1:0≤y:=by rw[← hy];exact Int.emod_nonneg _ (by decide)
 have y2:y<2147483587:=by rw[← hy];exact Int.emod_lt_of_pos _ (by decide)
 refine⟨y / 7,?_,by omega,by omega⟩
 simp only[stp,Nat.reduceSub,jbp (i:=n) (j:=1000003) (by decide),a1,a2,a3,jbp (i:=(n % 1000003+p*p*7919+p)*48271) (j:=2147483629) (by decide),hx,a4,jbp (i:=x*x) (j:=2147483587) (by decide),hy,jc4 (i:=y) (j:=7) (by decide) (by decide)]
 rfl
noncomputable def mixF(n p:Int):Int:=getI (jbu [.int n,.int p])
theorem jxn{n p:Int}(h0:0≤p)(hp:p≤1000):jbu [.int n,.int p]=some (.ok (.int (mixF n p))):=let ⟨_,h,_⟩:=jA3 n p h0 hp;jpk h
theorem jB9{n p:Int}(h0:0≤p)(hp:p≤1000):0≤mixF n p∧mixF n p<2147483648:=by
 obtain⟨r,h,q⟩:=jA3 n p h0 hp
 unfold mixF
 rw[h];exact q
inductive OwnV(H:Nat)(Ω:Sto)(c:List Int)(k o:Nat):Prop
 | mk (v:List Int) (h1:v.length=H) (h2:Ω[o]? = some (.lst (v.map .int))) (h3:v.getD k 0=c.getD k 0) (h4:∀ j,v.getD j 0≤c.getD j 0)
structure OwnAt(H:Nat)(Ω:Sto)(n:Nat)(os:List Nat)(c:List Int):Prop where
 o:Ω[n]? = some (.lst (os.map .obj))
 l:os.length=H
 cl:c.length=H
 nd:os.Nodup
 v:∀ k o,os[k]? = some o→OwnV H Ω c k o
theorem jm0{H:Nat}{y:Option D}(hH:H≤900):∀ (ds:List D) (x:Option D) (Ω:Sto),jgx (DL.gName 0) jbs ds [x,some (.int (H:Int))] Ω=some (.ok ((List.range ds.length).map fun j=>.obj (Ω.length+j)),Ω++List.replicate ds.length (.lst (List.replicate H (.int 0))))
 | [],x,Ω=>by simp[jgx,MS.p]
 | d::ds,x,Ω=>by
  have el:jbs [some d,some (.int (H:Int))] Ω=some (.ok (.obj Ω.length),Ω++[.lst (List.replicate H (.int 0))]):=by
   unfold jbs jh4
   rw[v_b (show lF (jae (fC (.int 0)) fNil) _ Ω=some (.ok [.int 0],Ω) from u_l rfl),if_pos (show [D.int 0].length≤sizeLine by decide),v_b (show lF (fVar 1) [some d,some (.int (H:Int))] Ω=some (.ok (.int (H:Int)),Ω) from u_l rfl)]
   dsimp only
   rw[if_pos ⟨by omega,by omega,by rw[Int.toNat_natCast];simp only[List.length_singleton];exact Nat.le_trans (show 1*H≤1000 by omega) (by decide)⟩,Int.toNat_natCast,jht]
   unfold jfp
   rw[if_pos (by rw[List.length_replicate];exact Nat.le_trans hH (by decide))]
  have ih:=jm0 (y:=y) hH ds (some d) (Ω++[.lst (List.replicate H (.int 0))])
  conv=>lhs;unfold jgx
  show ((jbs [some d,some (.int (H:Int))]).b fun y=>(jgx (DL.gName 0) jbs ds [some d,some (.int (H:Int))]).b fun ys=>MS.p (y::ys)) Ω=_
  rw[v_b el,v_b ih]
  have e1:(D.obj Ω.length::(List.range ds.length).map fun j=>D.obj ((Ω++[SO.lst (List.replicate H (.int 0))]).length+j))=(List.range (d::ds).length).map fun j=>D.obj (Ω.length+j):=by
   rw[List.length_cons,List.range_succ_eq_map,List.map_cons,List.map_map,List.cons.injEq]
   refine⟨rfl,List.map_congr_left fun j _=>?_⟩
   rw[List.length_append]
   show D.obj (Ω.length+1+j)=D.obj (Ω.length+(j+1))
   rw[Nat.add_assoc,Nat.add_comm 1 j]
  have e2:Ω++[SO.lst (List.replicate H (.int 0))]++List.replicate ds.length (SO.lst (List.replicate H (.int 0)))=Ω++List.replicate (d::ds).length (SO.lst (List.replicate H (.int 0))):=by
   rw[List.append_assoc,List.length_cons,List.replicate_succ];rfl
  rw[← e1,← e2]
  rfl
theorem rep0(H k:Nat):(List.replicate H (0:Int)).getD k 0=0:=by rw[List.getD_eq_getElem?_getD,List.getElem?_replicate];split<;>rfl
theorem jwl{H:Nat}(Ω:Sto):OwnAt H (Ω++List.replicate H (.lst (List.replicate H (.int 0)))++[.lst ((List.range H).map fun j=>.obj (Ω.length+j))]) (Ω.length+H) ((List.range H).map fun j=>Ω.length+j) (List.replicate H 0):=by
 refine⟨?_,by rw[List.length_map,List.length_range],List.length_replicate,?_,fun k o ho=>?_⟩
 ·rw[List.getElem?_append_right (by rw[List.length_append,List.length_replicate];omega),List.length_append,List.length_replicate,Nat.sub_self,List.map_map];rfl
 ·exact List.pairwise_map.mpr (List.nodup_range.imp fun {a b} h=>by omega)
 ·obtain⟨j,hj,rfl⟩:=List.mem_map.mp (List.mem_of_getElem? ho)
  have hj':=List.mem_range.mp hj
  refine⟨List.replicate H 0,List.length_replicate,?_,rfl,fun _=>Int.le_refl _⟩
  rw[List.getElem?_append_left (by rw[List.length_append,List.length_replicate];omega),List.getElem?_append_right (by omega),Nat.add_sub_cancel_left,List.getElem?_replicate,if_pos hj',List.map_replicate]
section
variable {H n:Nat}{Ω:Sto}{os:List Nat}{c:List Int}
theorem jm6{δ:DSt}{i:Nat}{f:DSt→M D}(A:OwnAt H Ω n os c){k:Nat}(hk:k<H)(h1:δ[2]? = some (some (.obj n)))(h2:f δ=some (.ok (.int (k:Int)))):∃ (o:Nat) (v:List Int),os[k]? = some o∧v.length=H∧Ω[o]? = some (.lst (v.map D.int))∧v.getD k 0=c.getD k 0∧(∀ j,v.getD j 0≤c.getD j 0)∧mIxL (lF (fVar 2)) (lF f) δ Ω=some (.ok (.obj o),Ω):=by
 have hk':k<os.length:=by rw[A.l];exact hk
 obtain⟨v,hv,e,e3,e4⟩:=A.v k os[k] (List.getElem?_eq_getElem hk')
 refine⟨os[k],v,List.getElem?_eq_getElem hk',hv,e,e3,e4,?_⟩
 exact jlc (u_l (by rw[jnr,h1];rfl)) (u_l h2) A.o (DL.atI_get (j:=k) (by rw[List.getElem?_map,List.getElem?_eq_getElem hk'];rfl))
theorem juk(A:OwnAt H Ω n os c)(h2:0<H){o:Nat}{v:List Int}(hv:v.length=H)(e:Ω[o]? = some (.lst (v.map .int))):o≠n:=by
 rintro rfl
 rw[A.o] at e
 have e':os.map D.obj=v.map D.int:=by injection e with e;injection e
 have l:=A.l
 cases os with
 | nil=>simp at l;omega
 | cons a os =>
  cases v with
  | nil=>simp at hv;omega
  | cons b v=>rw[List.map_cons,List.map_cons,List.cons.injEq] at e';cases e'.1
theorem OwnAt.put(A:OwnAt H Ω n os c)(h2:0<H){k o:Nat}{v:List Int}(hk:k<H)(ho:os[k]? = some o)(hv:v.length=H)(e:Ω[o]? = some (.lst (v.map .int)))(e3:v.getD k 0=c.getD k 0)(e4:∀ j,v.getD j 0≤c.getD j 0):OwnAt H (Ω.set o (.lst ((v.set k (v.getD k 0+1)).map .int))) n os (bmp c k):=by
 have hn:=juk A h2 hv e
 have hl:o<Ω.length:=(List.getElem?_eq_some_iff.mp e).1
 have hkc:k<c.length:=by rw[A.cl];exact hk
 refine⟨by rw[List.getElem?_set_ne hn];exact A.o,A.l,by rw[je5];exact A.cl,A.nd,fun j p hp=>?_⟩
 by_cases hjk:j=k
 ·subst hjk
  rw[ho] at hp;cases hp
  have be:v.set j (v.getD j 0+1)=bmp v j:=rfl
  refine⟨_,by rw[List.length_set];exact hv,List.getElem?_set_self hl,?_,fun i=>?_⟩
  ·rw[be,je2 (by rw[hv];exact hk),je2 hkc,if_pos rfl,if_pos rfl,e3]
  ·rw[be,je2 (by rw[hv];exact hk),je2 hkc]
   have:=e4 i
   split<;>omega
 ·obtain⟨u,hu,eu,u3,u4⟩:=A.v j p hp
  have hpo:o≠p:=fun z=>by
   subst z
   have hj:j<os.length:=(List.getElem?_eq_some_iff.mp hp).1
   have hk':k<os.length:=by rw[A.l];exact hk
   refine hjk ((List.getElem_inj (xs:=os) (h₀:=hj) (h₁:=hk') A.nd).mp ?_)
   have e1:=(List.getElem?_eq_some_iff.mp hp).2
   have e2:=(List.getElem?_eq_some_iff.mp ho).2
   rw[e1,e2]
  refine⟨u,hu,by rw[List.getElem?_set_ne hpo];exact eu,?_,fun i=>?_⟩
  ·rw[je2 hkc,if_neg hjk];exact u3
  ·rw[je2 hkc]
   have:=u4 i
   split
   ·rename_i z;subst z;omega
   ·exact this
theorem OwnAt.new(A:OwnAt H Ω n os c)(h2:0<H){w:List Int}{k:Nat}(hk:k<H)(hw:w.length=H)(w3:w.getD k 0=c.getD k 0)(w4:∀ j,w.getD j 0≤c.getD j 0):OwnAt H ((Ω++[SO.lst (w.map .int)]).set n (.lst ((os.set k Ω.length).map .obj))) n (os.set k Ω.length) c:=by
 have hl:n<Ω.length:=(List.getElem?_eq_some_iff.mp A.o).1
 have low:∀ (i:Nat) p,os[i]? = some p→p<Ω.length:=fun i p hp=>by
  obtain⟨u,hu,eu,_,_⟩:=A.v i p hp
  exact (List.getElem?_eq_some_iff.mp eu).1
 refine⟨by rw[List.getElem?_set_self (by rw[List.length_append];omega)],by rw[List.length_set];exact A.l,A.cl,?_,fun j p hp=>?_⟩
 ·rw[List.Nodup,List.pairwise_iff_getElem]
  intro i j hi hj hij
  rw[List.length_set] at hi hj
  have a1:=low i _ (List.getElem?_eq_getElem hi)
  have a2:=low j _ (List.getElem?_eq_getElem hj)
  have a3:=(List.pairwise_iff_getElem.mp A.nd) i j hi hj hij
  rw[List.getElem_set,List.getElem_set]
  split<;>split<;>omega
 ·rw[List.getElem?_set] at hp
  by_cases hjk:k=j
  ·subst hjk
   rw[if_pos rfl,if_pos (by rw[A.l];exact hk)] at hp
   cases hp
   refine⟨w,hw,?_,w3,w4⟩
   rw[List.getElem?_set_ne (by omega),List.getElem?_append_right (Nat.le_refl _),Nat.sub_self];rfl
  ·rw[if_neg hjk] at hp
   obtain⟨u,hu,eu,u3,u4⟩:=A.v j p hp
   have hpl:=low j p hp
   have hpn:n≠p:=fun z=>(juk A h2 hu eu) z.symm
   exact⟨u,hu,by rw[List.getElem?_set_ne hpn,List.getElem?_append_left hpl];exact eu,u3,u4⟩
end
end
noncomputable section
theorem jro{fo fi fv:DSt→MS D}{δ:DSt}{Ω Ω1:Sto}{n k:Nat}{ds:List D}{d:D}(h1:fv δ Ω=some (.ok d,Ω1))(h2:fo δ Ω1=some (.ok (.obj n),Ω1))(h3:fi δ Ω1=some (.ok (.int (k:Int)),Ω1))(h4:Ω1[n]? = some (.lst ds))(h5:k<ds.length):jkd fo fi fv δ Ω=some (.ok (.nx δ),Ω1.set n (.lst (ds.set k d))):=by
 unfold jkd
 rw[v_b h1,v_b h2,v_b h3,jjq]
 have:putL (gStL (k:Int) d) (.obj n) Ω1=some (.ok .non,Ω1.set n (.lst (ds.set k d))):=by
  unfold putL
  dsimp only
  rw[h4]
  dsimp only
  unfold gStL
  have ix:L2.ixN ds.length (k:Int)=some k:=by
   unfold L2.ixN
   rw[if_pos (Int.natCast_nonneg _),if_pos (Int.ofNat_lt.mpr h5)];rfl
  rw[ix];rfl
 rw[v_b this];rfl
theorem tup4(a b c d:D):jeb [a,b,c,d]=some (.tup [a,b,c,d]):=rfl
theorem kmax(i j:Int):kMax [.int i,.int j]=some (.int (if j > i then j else i)):=rfl
noncomputable def maxL(v w:List Int):List Int:=(v.zip w).map fun p=>if p.2 > p.1 then p.2 else p.1
theorem jqb{v w:List Int}{H:Nat}(h1:v.length=H)(h2:w.length=H)(k:Nat):(maxL v w).getD k 0=if w.getD k 0 > v.getD k 0 then w.getD k 0 else v.getD k 0:=by
 unfold maxL
 by_cases hk:k<H
 ·rw[List.getD_eq_getElem?_getD,List.getElem?_map,List.getElem?_eq_getElem (by rw[List.length_zip];omega),List.getElem_zip,List.getD_eq_getElem?_getD,List.getD_eq_getElem?_getD,List.getElem?_eq_getElem (by omega),List.getElem?_eq_getElem (by omega)]
  rfl
 ·rw[List.getD_eq_getElem?_getD,List.getD_eq_getElem?_getD,List.getD_eq_getElem?_getD,List.getElem?_eq_none (by rw[List.length_map,List.length_zip];omega),List.getElem?_eq_none (by omega),List.getElem?_eq_none (by omega)]
  rfl
structure RowsI(H:Nat)(c:List Int)(rs:List Row):Prop where
 k:jdq (List.replicate H 0) rs=true
 c:c=cnt (List.replicate H 0) rs
theorem jq8{H n:Nat}{Ω:Sto}{os:List Nat}{c:List Int}{rs:List Row}{sc:D}{a cl:Int}{x6 x7 x8 x9:Option D}(h2:2≤H)(hH:H≤4)(A:OwnAt H Ω n os c)(RI:RowsI H c rs)(hk:∀ r∈rs,Ok H r)(hl:rs.length≤1000)(ha:0≤a)(ha2:a≤500) :
    ∃ Ω' os' c' rs' y6 y7 y8 y9,OwnAt H Ω' n os' c'∧RowsI H c' rs'∧(∀ r∈rs',Ok H r)∧rs'.length≤rs.length+1 ∧
      (jce [some sc,some (.int (H:Int)),some (.obj n),some (ja7 rs),some (.int a),some (.int cl),x6,x7,x8,x9] Ω=some (.ok (.nx [some sc,some (.int (H:Int)),some (.obj n),some (ja7 rs'),some (.int a),some (.int cl),y6,y7,y8,y9]),Ω') ∨
       jce [some sc,some (.int (H:Int)),some (.obj n),some (ja7 rs),some (.int a),some (.int cl),x6,x7,x8,x9] Ω=some (.ok (.ct [some sc,some (.int (H:Int)),some (.obj n),some (ja7 rs'),some (.int a),some (.int cl),y6,y7,y8,y9]),Ω')):=by
  have e1:=jxn (n:=cl) (p:=400+a) (by omega) (by omega)
  obtain⟨d0,d1⟩:=jB9 (n:=cl) (p:=400+a) (by omega) (by omega)
  generalize mixF cl (400+a)=dr at e1 d0 d1
  have g0:=Int.emod_nonneg dr (show ((H:Nat):Int)≠0 by omega)
  have g1:=Int.emod_lt_of_pos dr (show (0:Int)<((H:Nat):Int) by omega)
  obtain⟨hs,hhs⟩:=Int.eq_ofNat_of_zero_le g0
  rw[hhs] at g1
  have hsH:hs<H:=Int.ofNat_lt.mp g1
  let δ2:DSt:=[some sc,some (.int (H:Int)),some (.obj n),some (ja7 rs),some (.int a),some (.int cl),some (.int dr),some (.int (hs:Int)),x8,x9]
  have st1:lF (gSet 6 (jeh jbu (jae (fVar 5) (jae (f2 gCat (fC (.int 400)) (fVar 4)) fNil)))) [some sc,some (.int (H:Int)),some (.obj n),some (ja7 rs),some (.int a),some (.int cl),x6,x7,x8,x9] Ω=some (.ok (.nx [some sc,some (.int (H:Int)),some (.obj n),some (ja7 rs),some (.int a),some (.int cl),some (.int dr),x7,x8,x9]),Ω):=u_l (by simp only[stp,e1];rfl)
  have st2:lF (gSet 7 (f2 gMod (fVar 6) (fVar 1))) [some sc,some (.int (H:Int)),some (.obj n),some (ja7 rs),some (.int a),some (.int cl),some (.int dr),x7,x8,x9] Ω=some (.ok (.nx δ2),Ω):=u_l (by simp only[stp,jbp (i:=dr) (j:=((H:Nat):Int)) (by omega),hhs];rfl)
  have tst:lF (t2 gEq (f2 gMod (f2 jcm (fVar 6) (fC (.int 4))) (fC (.int 3))) (fC (.int 0))) δ2 Ω=some (.ok (dr / 4 % 3 == 0),Ω):=u_l (by simp only[δ2,stp,jc4 (i:=dr) (j:=4) (by decide) (by decide),jbp (i:=dr / 4) (j:=3) (by decide)];rfl)
  unfold jce
  rw[ja5 st1,ja5 st2]
  by_cases hz:dr / 4 % 3=0
  · -- what the other knows
    have q0:=Int.emod_nonneg (dr / 12) (show ((H:Nat):Int)-1≠0 by omega)
    have q1:=Int.emod_lt_of_pos (dr / 12) (show (0:Int)<((H:Nat):Int)-1 by omega)
    have o0:=Int.emod_nonneg ((hs:Int)+1+dr / 12 % ((H:Int)-1)) (show ((H:Nat):Int)≠0 by omega)
    have o1:=Int.emod_lt_of_pos ((hs:Int)+1+dr / 12 % ((H:Int)-1)) (show (0:Int)<((H:Nat):Int) by omega)
    obtain⟨ot,hot⟩:=Int.eq_ofNat_of_zero_le o0
    rw[hot] at o1
    have otH:ot<H:=Int.ofNat_lt.mp o1
    let δ3:DSt:=[some sc,some (.int (H:Int)),some (.obj n),some (ja7 rs),some (.int a),some (.int cl),some (.int dr),some (.int (hs:Int)),some (.int (ot:Int)),x9]
    have st3:lF (gSet 8 (f2 gMod (f2 gCat (f2 gCat (fVar 7) (fC (.int 1))) (f2 gMod (f2 jcm (fVar 6) (fC (.int 12))) (f2 gSub (fVar 1) (fC (.int 1))))) (fVar 1))) δ2 Ω=some (.ok (.nx δ3),Ω):=u_l (by
      simp only[δ2,stp,jc4 (i:=dr) (j:=12) (by decide) (by decide),jbp (i:=dr / 12) (j:=((H:Nat):Int)-1) (by omega),jbp (i:=(hs:Int)+1+dr / 12 % ((H:Int)-1)) (j:=((H:Nat):Int)) (by omega),hot];rfl)
    obtain⟨p1,v1,k1,l1,w1,s1,t1,i1⟩:=jm6 (δ:=δ3) (i:=7) (f:=fVar 7) A hsH rfl rfl
    obtain⟨p2,v2,k2,l2,w2,s2,t2',i2⟩:=jm6 (δ:=δ3) (i:=8) (f:=fVar 8) A otH rfl rfl
    have hmx:(maxL v1 v2).length=H:=by unfold maxL;rw[List.length_map,List.length_zip,l1,l2,Nat.min_self]
    have cz:jd4 2 [] (jcc 0 1) tYes jcf δ3 [.obj p1,.obj p2] Ω=some ((maxL v1 v2).map .int):=by
      have a1:jfb Ω (.obj p1)=some (v1.map .int):=by unfold jfb;dsimp only;rw[w1];dsimp only;rw[if_pos (jdk v1)]
      have a2:jfb Ω (.obj p2)=some (v2.map .int):=by unfold jfb;dsimp only;rw[w2];dsimp only;rw[if_pos (jdk v2)]
      have cm:jbx (jcc 0 1) tYes jcf ((v1.zip v2).map fun p=>.tup [.int p.1,.int p.2]) (jbf 2 [] δ3)=some ((maxL v1 v2).map .int):=by
        rw[show (maxL v1 v2).map D.int=(v1.zip v2).map fun p=>D.int (if p.2 > p.1 then p.2 else p.1) from by unfold maxL;rw[List.map_map];rfl]
        refine jj8 (K:=fun p:Int×Int=>(.int p.1,.int p.2)) (F:=fun p:Int×Int=>D.int (if p.2 > p.1 then p.2 else p.1)) (v1.zip v2) none none fun p _=>?_
        unfold jcf
        simp only[stp,kmax];rfl
      unfold jd4
      dsimp only
      rw[a1,a2,Option.bind_some,Option.bind_some,jhz,cm,Option.bind_some,if_pos ⟨by rw[List.length_map,hmx];exact Nat.le_trans hH (by decide),jdk _⟩]
    have nw:jjd 2 [] (jar (mIxL (lF (fVar 2)) (lF (fVar 7))) (jar (mIxL (lF (fVar 2)) (lF (fVar 8))) (lF fNil))) (jcc 0 1) tYes jcf δ3 Ω=some (.ok (.obj Ω.length),Ω++[.lst ((maxL v1 v2).map .int)]):=by
      unfold jjd
      rw[v_b (jav i1 (jav i2 (u_l rfl)))]
      show (jd4 2 [] (jcc 0 1) tYes jcf δ3 [.obj p1,.obj p2] Ω).map _=_
      rw[cz];rfl
    have on1:(Ω++[SO.lst ((maxL v1 v2).map .int)])[n]? = some (.lst (os.map .obj)):=by rw[List.getElem?_append_left (List.getElem?_eq_some_iff.mp A.o).1];exact A.o
    have st4:=jro (fo:=lF (fVar 2)) (fi:=lF (fVar 7)) (k:=hs) nw (u_l rfl) (u_l rfl) on1 (by rw[List.length_map,A.l];exact hsH)
    rw[show (os.map D.obj).set hs (.obj Ω.length)=(os.set hs Ω.length).map D.obj from by rw[List.map_set]] at st4
    have mx3:(maxL v1 v2).getD hs 0=c.getD hs 0:=by
      rw[jqb l1 l2]
      have:=t2' hs
      split<;>omega
    have mx4:∀ j,(maxL v1 v2).getD j 0≤c.getD j 0:=fun j=>by
      rw[jqb l1 l2]
      have:=t1 j
      have:=t2' j
      split<;>omega
    refine⟨_,_,c,rs,some (.int dr),some (.int (hs:Int)),some (.int (ot:Int)),x9,A.new (by omega) hsH hmx mx3 mx4,RI,hk,by omega,.inr ?_⟩
    rw[show (dr / 4 % 3 == 0)=true from by simpa using hz] at tst
    show eSeq _ _ δ2 Ω=_
    rw[jw5,s_b,u_if tst,if_pos rfl,ja5 st3,ja5 st4]
    rfl
  · rw[show (dr / 4 % 3 == 0)=false from by simpa using hz] at tst
    rw[jdu tst]
    obtain⟨dd,o1,o2,st3⟩:∃ dd:D,okD dd=true∧depD dd≤3∧∀ g2:DSt→MS Out,eSeq (lF (gSet 9 (fL jeb (jae (fC (.str "do")) (jae (f2 gMod (f2 jcm (fVar 6) (fC (.int 12))) (fC (.int 3))) (jae (f2 gSub (f2 gMod (f2 jcm (fVar 6) (fC (.int 36))) (fC (.int 9))) (fC (.int 2))) fNil)))))) (eSeq (lF (gIf (t2 gEq (f2 gMod (f2 jcm (fVar 6) (fC (.int 400))) (fC (.int 4))) (fC (.int 1))) (gSet 9 (fL jeb (jae (fC (.str "give")) (jae (f2 gMod (f2 jcm (fVar 6) (fC (.int 12))) (fC (.int 3))) (jae (f2 gMod (f2 gCat (fVar 7) (fC (.int 1))) (fVar 1)) (jae (f2 gCat (fC (.int 1)) (f2 gMod (f2 jcm (fVar 6) (fC (.int 36))) (fC (.int 9)))) fNil)))))) gNx)) g2) δ2 Ω=g2 [some sc,some (.int (H:Int)),some (.obj n),some (ja7 rs),some (.int a),some (.int cl),some (.int dr),some (.int (hs:Int)),x8,some dd] Ω:=by
      have s1:lF (gSet 9 (fL jeb (jae (fC (.str "do")) (jae (f2 gMod (f2 jcm (fVar 6) (fC (.int 12))) (fC (.int 3))) (jae (f2 gSub (f2 gMod (f2 jcm (fVar 6) (fC (.int 36))) (fC (.int 9))) (fC (.int 2))) fNil))))) δ2 Ω=some (.ok (.nx [some sc,some (.int (H:Int)),some (.obj n),some (ja7 rs),some (.int a),some (.int cl),some (.int dr),some (.int (hs:Int)),x8,some (.tup [.str "do",.int (dr / 12 % 3),.int (dr / 36 % 9-2)])]),Ω):=u_l (by
        simp only[δ2,stp,jc4 (i:=dr) (j:=12) (by decide) (by decide),jc4 (i:=dr) (j:=36) (by decide) (by decide),jbp (i:=dr / 12) (j:=3) (by decide),jbp (i:=dr / 36) (j:=9) (by decide)];rfl)
      have tt:∀ y9,t2 gEq (f2 gMod (f2 jcm (fVar 6) (fC (.int 400))) (fC (.int 4))) (fC (.int 1)) [some sc,some (.int (H:Int)),some (.obj n),some (ja7 rs),some (.int a),some (.int cl),some (.int dr),some (.int (hs:Int)),x8,y9]=some (.ok (dr / 400 % 4 == 1)):=fun y9=>by
        simp only[stp,jc4 (i:=dr) (j:=400) (by decide) (by decide),jbp (i:=dr / 400) (j:=4) (by decide)];rfl
      by_cases hg:dr / 400 % 4=1
      · refine⟨.tup [.str "give",.int (dr / 12 % 3),.int (((hs:Int)+1) % (H:Int)),.int (1+dr / 36 % 9)],rfl,Nat.le_trans (Nat.le_of_eq (by rfl)) (show 1≤3 by decide),fun g2=>?_⟩
        rw[ja5 s1,ja5 (u_l (show gIf _ _ _ _=some (.ok (.nx [some sc,some (.int (H:Int)),some (.obj n),some (ja7 rs),some (.int a),some (.int cl),some (.int dr),some (.int (hs:Int)),x8,some (.tup [.str "give",.int (dr / 12 % 3),.int (((hs:Int)+1) % (H:Int)),.int (1+dr / 36 % 9)])])) from by
          rw[w_if (tt _),if_pos (by simpa using hg)]
          simp only[stp,tup4,jc4 (i:=dr) (j:=12) (by decide) (by decide),jc4 (i:=dr) (j:=36) (by decide) (by decide),jbp (i:=dr / 12) (j:=3) (by decide),jbp (i:=dr / 36) (j:=9) (by decide),jbp (i:=(hs:Int)+1) (j:=((H:Nat):Int)) (by omega)];rfl))]
      · refine⟨.tup [.str "do",.int (dr / 12 % 3),.int (dr / 36 % 9-2)],rfl,Nat.le_trans (Nat.le_of_eq (by rfl)) (show 1≤3 by decide),fun g2=>?_⟩
        rw[ja5 s1,ja5 (u_l (jxo (by rw[tt,show (dr / 400 % 4 == 1)=false from by simpa using hg])))]
    rw[st3]
    let δ4:DSt:=[some sc,some (.int (H:Int)),some (.obj n),some (ja7 rs),some (.int a),some (.int cl),some (.int dr),some (.int (hs:Int)),x8,some dd]
    obtain⟨p1,v1,k1,l1,w1,s1,t1,i1⟩:=jm6 (δ:=δ4) (i:=7) (f:=fVar 7) A hsH rfl rfl
    have hv:hs<v1.length:=by rw[l1];exact hsH
    have own1:mIxL (mIxL (lF (fVar 2)) (lF (fVar 7))) (lF (fVar 7)) δ4 Ω=some (.ok (.int (v1.getD hs 0)),Ω):=jlc i1 (u_l rfl) w1 (at_c hv)
    have tp:(fun δ=>MS.b ((jar (mIxL (lF (fVar 2)) (lF (fVar 7))) (lF fNil)) δ) tupS) δ4 Ω=some (.ok (.tup (v1.map .int)),Ω):=by
      show (MS.b ((jar (mIxL (lF (fVar 2)) (lF (fVar 7))) (lF fNil)) δ4) tupS) Ω=_
      rw[v_b (jav i1 (u_l rfl))]
      unfold tupS
      dsimp only
      rw[w1]
      dsimp only
      rw[if_pos (jdk v1)]
    let r:Row:=⟨hs,v1.getD hs 0,v1,dd⟩
    have rw1:mL jeb (jar (lF (fVar 7)) (jar (mIxL (mIxL (lF (fVar 2)) (lF (fVar 7))) (lF (fVar 7))) (jar (fun δ=>MS.b ((jar (mIxL (lF (fVar 2)) (lF (fVar 7))) (lF fNil)) δ) tupS) (lF (jae (fVar 9) fNil))))) δ4 Ω=some (.ok (rowD r),Ω) :=
      u_L (xs:=[.int (hs:Int),.int (v1.getD hs 0),.tup (v1.map .int),dd]) (jav (u_l rfl) (jav own1 (jav tp (u_l rfl)))) rfl
    have ap:eApp 3 (mL jeb (jar (lF (fVar 7)) (jar (mIxL (mIxL (lF (fVar 2)) (lF (fVar 7))) (lF (fVar 7))) (jar (fun δ=>MS.b ((jar (mIxL (lF (fVar 2)) (lF (fVar 7))) (lF fNil)) δ) tupS) (lF (jae (fVar 9) fNil)))))) δ4 Ω=some (.ok (.nx [some sc,some (.int (H:Int)),some (.obj n),some (ja7 (rs++[r])),some (.int a),some (.int cl),some (.int dr),some (.int (hs:Int)),x8,some dd]),Ω):=by
      unfold eApp
      rw[v_b rw1]
      show (if (rs.map rowD).length<sizeLine then (MS.p (Out.nx (δ4.set 3 (some (.lst (rs.map rowD++[rowD r]))))):MS Out) else fun _=>none) Ω=_
      rw[if_pos (by rw[List.length_map];exact Nat.lt_of_le_of_lt hl (by decide))]
      show some (Except.ok (Out.nx ([some sc,some (.int (H:Int)),some (.obj n),some (.lst (rs.map rowD++[rowD r])),some (.int a),some (.int cl),some (.int dr),some (.int (hs:Int)),x8,some dd])),Ω)=_
      rw[show rs.map rowD++[rowD r]=(rs++[r]).map rowD from by rw[List.map_append];rfl]
    let δ5:DSt:=[some sc,some (.int (H:Int)),some (.obj n),some (ja7 (rs++[r])),some (.int a),some (.int cl),some (.int dr),some (.int (hs:Int)),x8,some dd]
    obtain⟨p1',v1',k1',l1',w1',s1',t1',i1'⟩:=jm6 (δ:=δ5) (i:=7) (f:=fVar 7) A hsH rfl rfl
    rw[k1] at k1'
    cases k1'
    have own2:m2 gCat (mIxL (mIxL (lF (fVar 2)) (lF (fVar 7))) (lF (fVar 7))) (lF (fC (.int 1))) δ5 Ω=some (.ok (.int (v1.getD hs 0+1)),Ω):=u_2 (jlc i1' (u_l rfl) w1 (at_c hv)) (u_l rfl) (jlj _ _)
    have st6:=jro (fo:=mIxL (lF (fVar 2)) (lF (fVar 7))) (fi:=lF (fVar 7)) (k:=hs) own2 i1' (u_l rfl) w1 (by rw[List.length_map];exact hv)
    rw[show (v1.map D.int).set hs (.int (v1.getD hs 0+1))=(v1.set hs (v1.getD hs 0+1)).map D.int from by rw[List.map_set]] at st6
    have can:canT c r=true:=(jrz (by rw[A.cl];exact l1)).mpr ⟨s1,fun k _=>t1 k⟩
    refine⟨_,_,bmp c hs,rs++[r],some (.int dr),some (.int (hs:Int)),x8,some dd,A.put (by omega) hsH k1 l1 w1 s1 t1,⟨?_,by rw[jr0,← RI.c]⟩,fun x hx=>?_,by rw[List.length_append];exact Nat.le_refl _,.inl ?_⟩
    · rw[jki,RI.k,← RI.c,Bool.true_and]
      show (canT c r&&true)=true
      rw[can];rfl
    · rcases List.mem_append.mp hx with hx|hx
      · exact hk x hx
      · rw[List.mem_singleton.mp hx]
        exact⟨hsH,l1,o1,o2⟩
    · rw[ja5 ap]
      exact st6
end
noncomputable section
theorem jlo{g:DSt→MS Out}{tg:D→DSt→Option DSt}{d:D}{ds:List D}{δ δ1 δ2:DSt}{Ω Ω1:Sto}(h1:tg d δ=some δ1)(h2:g δ1 Ω=some (.ok (.nx δ2),Ω1)∨g δ1 Ω=some (.ok (.ct δ2),Ω1)):forE g tg (d::ds) δ Ω=forE g tg ds δ2 Ω1:=by
 conv=>lhs;unfold forE
 rw[h1]
 dsimp only
 rcases h2 with h2|h2<;>rw[v_b h2]
theorem jk3{H n:Nat}{sc:D}(h2:2≤H)(hH:H≤4):∀ (cs:List Int) (i:Nat) (Ω:Sto) (os:List Nat) (cc:List Int) (rs:List Row) (x4 x5 x6 x7 x8 x9:Option D),i+cs.length≤400→rs.length+cs.length≤900→OwnAt H Ω n os cc→RowsI H cc rs→(∀ r∈rs,Ok H r) →
  ∃ Ω' rs' y4 y5 y6 y7 y8 y9,jdq (List.replicate H 0) rs'=true∧(∀ r∈rs',Ok H r)∧rs'.length≤rs.length+cs.length∧forE jce (jcc 4 5) (jdv i (cs.map .int)) [some sc,some (.int (H:Int)),some (.obj n),some (ja7 rs),x4,x5,x6,x7,x8,x9] Ω=some (.ok (.nx [some sc,some (.int (H:Int)),some (.obj n),some (ja7 rs'),y4,y5,y6,y7,y8,y9]),Ω')
 | [],i,Ω,os,cc,rs,x4,x5,x6,x7,x8,x9,_,_,_,RI,hk=>⟨Ω,rs,x4,x5,x6,x7,x8,x9,RI.k,hk,by omega,rfl⟩
 | c::cs,i,Ω,os,cc,rs,x4,x5,x6,x7,x8,x9,hi,hr,A,RI,hk=>by
  rw[List.length_cons] at hi hr
  obtain⟨Ω1,os1,cc1,rs1,y6,y7,y8,y9,A1,RI1,k1,l1,e⟩:=jq8 (sc:=sc) (a:=(i:Int)) (cl:=c) (x6:=x6) (x7:=x7) (x8:=x8) (x9:=x9) h2 hH A RI hk (by omega) (by omega) (by omega)
  obtain⟨Ω',rs',z4,z5,z6,z7,z8,z9,kk',k',l',e'⟩:=jk3 h2 hH cs (i+1) Ω1 os1 cc1 rs1 (some (.int (i:Int))) (some (.int c)) y6 y7 y8 y9 (by omega) (by omega) A1 RI1 k1
  refine⟨Ω',rs',z4,z5,z6,z7,z8,z9,kk',k',by rw[List.length_cons];omega,?_⟩
  rw[List.map_cons]
  show forE jce (jcc 4 5) (.tup [.int (i:Int),.int c]::jdv (i+1) (cs.map .int)) _ Ω=_
  rw[jlo (δ1:=[some sc,some (.int (H:Int)),some (.obj n),some (ja7 rs),some (.int (i:Int)),some (.int c),x6,x7,x8,x9]) rfl e]
  exact e'
theorem jw3{H:Nat}{ns:List Int}(Ω:Sto)(h2:2≤H)(hH:H≤4)(hl:ns.length≤63):∃ Ω' rs,jdq (List.replicate H 0) rs=true∧(∀ r∈rs,Ok H r)∧rs.length≤63∧jev [scr ns,.int (H:Int)] Ω=some (.ok (ja7 rs),Ω'):=by
 let Ω1:=Ω++List.replicate H (.lst (List.replicate H (.int 0)))++[SO.lst ((List.range H).map fun j=>.obj (Ω.length+j))]
 have cut:cutL (ns.map D.int) (some 2) (some 40)=((ns.drop (HT.sIx ns.length 0 (some 2))).take (HT.sIx ns.length ns.length (some 40)-HT.sIx ns.length 0 (some 2))).map .int:=by
  unfold cutL
  rw[List.length_map,← List.map_drop,← List.map_take]
 have hcs:((ns.drop (HT.sIx ns.length 0 (some 2))).take (HT.sIx ns.length ns.length (some 40)-HT.sIx ns.length 0 (some 2))).length≤63:=by
  rw[List.length_take,List.length_drop];omega
 generalize (ns.drop (HT.sIx ns.length 0 (some 2))).take (HT.sIx ns.length ns.length (some 40)-HT.sIx ns.length 0 (some 2))=cs at cut hcs
 have st1:jkk 1 [("_law_houses",1)] (lF (jha jcu (jae (fVar 1) fNil))) (DL.gName 0) jbs [some (scr ns),some (.int (H:Int)),none,none,none,none,none,none,none,none] Ω=some (.ok (.obj (Ω.length+H)),Ω1):=by
  unfold jkk
  rw[v_b (show lF (jha jcu (jae (fVar 1) fNil)) [some (scr ns),some (.int (H:Int)),none,none,none,none,none,none,none,none] Ω=some (.ok (jbl 0 H),Ω) from u_l (by simp only[stp];rfl))]
  rw[if_pos (by rw[jf3];exact Nat.le_trans hH (by decide))]
  have mk:=jm0 (H:=H) (y:=none) (by omega) (jbl 0 H) none Ω
  rw[jf3] at mk
  rw[v_b (show jgx (DL.gName 0) jbs (jbl 0 H) (jbf 1 [("_law_houses",1)] [some (scr ns),some (.int (H:Int)),none,none,none,none,none,none,none,none]) Ω=_ from mk)]
  unfold jfp
  rw[if_pos (by rw[List.length_map,List.length_range];exact Nat.le_trans hH (by decide)),List.length_append,List.length_replicate]
 obtain⟨Ω',rs,y4,y5,y6,y7,y8,y9,kk',k',l',e'⟩:=jk3 (sc:=scr ns) h2 hH cs 0 Ω1 _ _ [] none none none none none none (by omega) (by simp;omega) (jwl Ω) ⟨rfl,rfl⟩ (fun _ h=>by cases h)
 refine⟨Ω',rs,kk',k',by simp at l';omega,?_⟩
 unfold jev
 rw[jiq]
 show (MS.b (jdy [some (scr ns),some (.int (H:Int)),none,none,none,none,none,none,none,none]) outE) Ω=_
 have h:jdy [some (scr ns),some (.int (H:Int)),none,none,none,none,none,none,none,none] Ω=some (.ok (.rt (ja7 rs)),Ω'):=by
  unfold jdy
  rw[ja5 (show eSet 2 _ _ Ω=some (.ok (.nx [some (scr ns),some (.int (H:Int)),some (.obj (Ω.length+H)),none,none,none,none,none,none,none]),Ω1) from jf4 st1)]
  rw[ja5 (show lF (gSet 3 (fL jcn fNil)) _ Ω1=some (.ok (.nx [some (scr ns),some (.int (H:Int)),some (.obj (Ω.length+H)),some (ja7 []),none,none,none,none,none,none]),Ω1) from u_l rfl)]
  have it:lF (jha jfg (jae (fSl (fVar 0) (jec (fC (.int 2))) (jec (fC (.int 40)))) fNil)) [some (scr ns),some (.int (H:Int)),some (.obj (Ω.length+H)),some (ja7 []),none,none,none,none,none,none] Ω1=some (.ok (jdv 0 (cs.map .int)),Ω1):=u_l (by
   unfold fSl jec
   simp only[stp,intD,cutD,cut,jyi];rfl)
  rw[ja5 (show eFor _ _ _ _ Ω1=some (.ok (.nx [some (scr ns),some (.int (H:Int)),some (.obj (Ω.length+H)),some (ja7 rs),y4,y5,y6,y7,y8,y9]),Ω') from by
   rw[jw4,v_b it];exact e')]
  exact u_l rfl
 rw[v_b h];rfl
end
noncomputable section
theorem jzk{H:Nat}{r:Row}(K:Ok H r):okD (rowD r)=true:=by
 show okDs [.int (r.h:Int),.int r.n,.tup (r.cs.map .int),r.deed]=true
 have e:okD (.tup (r.cs.map .int))=true:=jfr fun _ _=>rfl
 unfold okDs okDs okDs okDs okDs
 rw[e,K.d1]
 rfl
theorem jve{H:Nat}{r:Row}(K:Ok H r):depD (rowD r)≤5:=by
 show depDs [.int (r.h:Int),.int r.n,.tup (r.cs.map .int),r.deed]+1≤5
 have e:depD (.tup (r.cs.map .int))≤1:=by
  show depDs (r.cs.map D.int)+1≤1
  have:=jeg (f:=D.int) (k:=0) (xs:=r.cs) fun _ _=>Nat.le_refl 0
  omega
 have d:=K.d2
 have q:depDs [.int (r.h:Int),.int r.n,.tup (r.cs.map .int),r.deed]≤4:=by
  unfold depDs depDs depDs depDs depDs
  refine Nat.max_le.mpr ⟨Nat.zero_le _,Nat.max_le.mpr ⟨Nat.zero_le _,Nat.max_le.mpr ⟨by omega,Nat.max_le.mpr ⟨by omega,Nat.zero_le _⟩⟩⟩⟩
 omega
theorem jwg{H:Nat}{rs:List Row}(K:∀ r∈rs,Ok H r):okDs (rs.map rowD)=true∧depDs (rs.map rowD)≤5:=⟨jfr fun r hr=>jzk (K r hr),jeg fun r hr=>jve (K r hr)⟩
theorem jns{g:D→D→Option D}{fa fb:DSt→M D}{δ:DSt}{x y d:D}(h1:fa δ=some (.ok x))(h2:fb δ=some (.ok y))(h3:g x y=some d):f2 g fa fb δ=some (.ok d):=by rw[e_2,h1,M.b_ok,h2,M.b_ok,h3];rfl
noncomputable abbrev nl(qs:List Nat):D:=.lst (qs.map fun q:Nat=>.int (q:Int))
theorem ix_n{qs:List Nat}{k:Nat}(h:k<qs.length):gIx (nl qs) (.int (k:Int))=some (.int ((qs.getD k 0:Nat):Int)):=by
 refine DL.atI_get (j:=k) ?_
 rw[List.getElem?_map,List.getElem?_eq_getElem h,List.getD_eq_getElem?_getD,List.getElem?_eq_getElem h];rfl
theorem jrq{fi fv:DSt→M D}{δ:DSt}{i k:Nat}{d:D}{ds:List D}(h1:fv δ=some (.ok d))(h2:fi δ=some (.ok (.int (k:Int))))(h3:δ[i]? = some (some (.lst ds)))(h4:k<ds.length):jif i fi fv δ=some (.ok (.nx (δ.set i (some (.lst (ds.set k d)))))):=by
 unfold jif
 rw[h1,M.b_ok,h2,M.b_ok,h3,Option.join_some]
 dsimp only
 have ix:L2.ixN ds.length (k:Int)=some k:=by
  unfold L2.ixN
  rw[if_pos (Int.natCast_nonneg _),if_pos (Int.ofNat_lt.mpr h4)];rfl
 rw[ix];rfl
noncomputable def swp(qs:List Nat)(a o:Nat):List Nat:=(qs.set a (qs.getD o 0)).set o (qs.getD a 0)
theorem jxd(qs:List Nat)(a o:Nat):(swp qs a o).length=qs.length:=by unfold swp;rw[List.length_set,List.length_set]
theorem jxe{qs:List Nat}{a o:Nat}(ha:a<qs.length)(ho:o<qs.length){x:Nat}(h:x∈qs):x∈swp qs a o:=by
 obtain⟨k,hk,rfl⟩:=List.getElem_of_mem h
 have at':∀ j,j<qs.length→(swp qs a o)[j]? = if o=j then some (qs.getD a 0) else if a=j then some (qs.getD o 0) else qs[j]?:=fun j hj=>by
  unfold swp
  rw[List.getElem?_set,List.getElem?_set,List.length_set]
  by_cases z1:o=j
  ·rw[if_pos z1,if_pos z1,if_pos (by omega)]
  ·rw[if_neg z1,if_neg z1]
   by_cases z2:a=j
   ·rw[if_pos z2,if_pos z2,if_pos (by omega)]
   ·rw[if_neg z2,if_neg z2]
 have gd:∀ j (hj:j<qs.length),qs.getD j 0=qs[j]:=fun j hj=>by rw[List.getD_eq_getElem?_getD,List.getElem?_eq_getElem hj];rfl
 by_cases z1:k=a
 ·subst z1
  exact List.mem_of_getElem? (i:=o) (by rw[at' o ho,if_pos rfl,gd k hk])
 ·by_cases z2:k=o
  ·subst z2
   by_cases z3:k=a
   ·exact absurd z3 z1
   ·exact List.mem_of_getElem? (i:=a) (by rw[at' a ha,if_neg z3,if_pos rfl,gd k hk])
  ·exact List.mem_of_getElem? (i:=k) (by rw[at' k hk,if_neg (fun z=>z2 z.symm),if_neg (fun z=>z1 z.symm),List.getElem?_eq_getElem hk])
theorem jAl{qs:List Nat}{a o n:Nat}(ha:a<qs.length)(ho:o<qs.length)(h:∀ q∈qs,q<n):∀ q∈swp qs a o,q<n:=by
 intro q hq
 have gd:∀ j,j<qs.length→qs.getD j 0<n:=fun j hj=>by rw[List.getD_eq_getElem?_getD,List.getElem?_eq_getElem hj];exact h _ (List.getElem_mem hj)
 unfold swp at hq
 rcases List.mem_or_eq_of_mem_set hq with hq|rfl
 ·rcases List.mem_or_eq_of_mem_set hq with hq|rfl
  ·exact h q hq
  ·exact gd o ho
 ·exact gd a ha
structure OrdI(n:Nat)(qs:List Nat):Prop where
 l:qs.length=n
 a:∀ i,i<n→i∈qs
 b:∀ q∈qs,q<n
theorem jn6{ns:List Int}{n a:Nat}{qs:List Nat}{x4 x5 x6:Option D}(hn:n≤63)(ha:a<n)(O:OrdI n qs) :
  ∃ qs' y4 y5,OrdI n qs'∧jdm [some (scr ns),some (.int (n:Int)),some (nl qs),some (.int (a:Int)),x4,x5,x6]=some (.ok (.nx [some (scr ns),some (.int (n:Int)),some (nl qs'),some (.int (a:Int)),y4,y5,x6])):=by
 have m0:=Int.emod_nonneg (a:Int) (show (20:Int)≠0 by decide)
 have e1:=jnk (ns:=ns) (k:=40+(a:Int) % 20) (by omega)
 generalize jgd ns (40+(a:Int) % 20)=cl at e1
 have e2:=jxn (n:=cl) (p:=500+(a:Int)) (by omega) (by omega)
 generalize mixF cl (500+(a:Int))=dr at e2
 have g0:=Int.emod_nonneg dr (show ((n:Nat):Int)≠0 by omega)
 have g1:=Int.emod_lt_of_pos dr (show (0:Int)<((n:Nat):Int) by omega)
 obtain⟨o,ho⟩:=Int.eq_ofNat_of_zero_le g0
 rw[ho] at g1
 have hol:o<qs.length:=by rw[O.l];exact Int.ofNat_lt.mp g1
 have hal:a<qs.length:=by rw[O.l];exact ha
 refine⟨swp qs a o,some (.int (o:Int)),some (.int ((qs.getD a 0:Nat):Int)),⟨by rw[jxd];exact O.l,fun i hi=>jxe hal hol (O.a i hi),jAl hal hol O.b⟩,?_⟩
 unfold jdm
 rw[jom (show gSet 4 _ _=some (.ok (.nx [some (scr ns),some (.int (n:Int)),some (nl qs),some (.int (a:Int)),some (.int (o:Int)),x5,x6])) from by
  simp only[stp,jbp (i:=(a:Int)) (j:=20) (by decide),e1,e2,jbp (i:=dr) (j:=((n:Nat):Int)) (by omega),ho];rfl)]
 rw[jom (show gSet 5 _ _=some (.ok (.nx [some (scr ns),some (.int (n:Int)),some (nl qs),some (.int (a:Int)),some (.int (o:Int)),some (.int ((qs.getD a 0:Nat):Int)),x6])) from jrp 5 (jns rfl rfl (ix_n hal)))]
 have s1:jif 2 (fVar 3) (f2 gIx (fVar 2) (fVar 4)) [some (scr ns),some (.int (n:Int)),some (nl qs),some (.int (a:Int)),some (.int (o:Int)),some (.int ((qs.getD a 0:Nat):Int)),x6]=some (.ok (.nx [some (scr ns),some (.int (n:Int)),some (nl (qs.set a (qs.getD o 0))),some (.int (a:Int)),some (.int (o:Int)),some (.int ((qs.getD a 0:Nat):Int)),x6])):=by
  rw[jrq (jns rfl rfl (ix_n hol)) rfl rfl (by rw[List.length_map];exact hal)]
  unfold nl
  rw[List.map_set]
  rfl
 rw[jom s1,jrq (d:=.int ((qs.getD a 0:Nat):Int)) (k:=o) (ds:=(qs.set a (qs.getD o 0)).map fun q:Nat=>.int (q:Int)) rfl rfl rfl (by rw[List.length_map,List.length_set];exact hol)]
 unfold swp nl
 rw[List.map_set (l:=qs.set a (qs.getD o 0))]
 rfl
theorem jAc(n:Nat):jbl 0 n=(List.range n).map fun q:Nat=>D.int (q:Int):=by
 have:=jn9 n id
 rw[List.map_id] at this
 exact this
theorem js8{ns:List Int}{n:Nat}(hn:n≤63):∃ ps:List Nat,(∀ i,i<n→i∈ps)∧(∀ q∈ps,q<n)∧ps.length≤126∧jd6 [scr ns,.int (n:Int)]=some (.ok (nl ps)):=by
 have c1:=jnk (ns:=ns) (k:=61) (by decide)
 generalize hcl:jgd ns 61=cl at c1
 obtain⟨δ',e,qs,y3,y4,y5,rfl,O⟩:=jvn (g:=jdm) (tg:=DL.gName 3) (jbl 0 n) (fun _ δ=>∃ qs y3 y4 y5,δ=[some (scr ns),some (.int (n:Int)),some (nl qs),y3,y4,y5,none]∧OrdI n qs) (fun j hj δ ⟨qs,y3,y4,y5,hd,O⟩=>by
   subst hd
   rw[jf3] at hj
   obtain⟨qs',z4,z5,O',e⟩:=jn6 (ns:=ns) (x4:=y4) (x5:=y5) (x6:=none) hn hj O
   refine⟨[some (scr ns),some (.int (n:Int)),some (nl qs),some (.int (j:Int)),y4,y5,none],?_,_,.inl e,qs',_,z4,z5,rfl,O'⟩
   rw[jn8,Int.zero_add]
   rfl) [some (scr ns),some (.int (n:Int)),some (nl (List.range n)),none,none,none,none] ⟨List.range n,none,none,none,rfl,⟨List.length_range,fun i hi=>List.mem_range.mpr hi,fun q hq=>List.mem_range.mp hq⟩⟩
 let tw:List Nat:=qs.filter fun q=>mixF cl (600+(q:Int)) % 4 == 1
 have cm:jbx (DL.gName 0) (t2 gEq (f2 gMod (jeh jbu (jae (jeh jau (jae (fVar 1) (jae (fC (.int 61)) fNil))) (jae (f2 gCat (fC (.int 600)) (fVar 0)) fNil))) (fC (.int 4))) (fC (.int 1))) jed (qs.map fun q:Nat=>.int (q:Int)) [none,some (scr ns)]=some (tw.map fun q:Nat=>.int (q:Int)):=by
  have:=jxw (c:=[some (scr ns)]) (tc:=t2 gEq (f2 gMod (jeh jbu (jae (jeh jau (jae (fVar 1) (jae (fC (.int 61)) fNil))) (jae (f2 gCat (fC (.int 600)) (fVar 0)) fNil))) (fC (.int 4))) (fC (.int 1))) (fe:=jed) (p:=fun d=>match d with|.int k=>mixF cl (600+k) % 4 == 1|_=>false) (qs.map fun q:Nat=>.int (q:Int)) none fun d hd=>by
   obtain⟨q,hq,rfl⟩:=List.mem_map.mp hd
   have:=O.b q hq
   have e2:=jxn (n:=cl) (p:=600+(q:Int)) (by omega) (by omega)
   refine⟨?_,rfl⟩
   simp only[stp,c1,e2,jbp (i:=mixF cl (600+(q:Int))) (j:=4) (by decide)]
   rfl
  rw[this,List.filter_map]
  rfl
 refine⟨qs++tw,fun i hi=>List.mem_append_left _ (O.a i hi),fun q hq=>?_,?_,?_⟩
 ·rcases List.mem_append.mp hq with hq|hq
  ·exact O.b q hq
  ·exact O.b q (List.mem_filter.mp hq).1
 ·have:=O.l
  have:tw.length≤qs.length:=List.length_filter_le _ _
  rw[List.length_append];omega
 ·have tl:tw.length≤63:=by
   have:=O.l
   have:tw.length≤qs.length:=List.length_filter_le _ _
   omega
  unfold jd6
  rw[jpe]
  show M.b (jdg [some (scr ns),some (.int (n:Int)),none,none,none,none,none]) outD=_
  have h:jdg [some (scr ns),some (.int (n:Int)),none,none,none,none,none]=some (.ok (.rt (nl (qs++tw)))):=by
   unfold jdg
   rw[jom (show gSet 2 _ _=some (.ok (.nx [some (scr ns),some (.int (n:Int)),some (nl (List.range n)),none,none,none,none])) from by
    rw[jrp 2 (d:=nl (List.range n)) ?_]
    ·rfl
    ·rw[e_L,show jae (fVar 1) fNil [some (scr ns),some (.int (n:Int)),none,none,none,none,none]=some (.ok [.int (n:Int)]) from rfl,M.b_ok]
     unfold jsk
     dsimp only
     rw[if_pos ⟨Int.natCast_nonneg _,by omega⟩,Int.toNat_natCast,jAc];rfl)]
   rw[jom (show gFor _ _ _ _=_ from by
    rw[jCz (ds:=jbl 0 n) (by simp only[stp];rfl)];exact e)]
   rw[jom (show gSet 6 _ _=some (.ok (.nx [some (scr ns),some (.int (n:Int)),some (nl qs),y3,y4,y5,some (nl tw)])) from by
    rw[jrp 6 (d:=nl tw) ?_]
    ·rfl
    ·rw[jpb,show jnv (fVar 2) [some (scr ns),some (.int (n:Int)),some (nl qs),y3,y4,y5,none]=some (.ok (qs.map fun q:Nat=>.int (q:Int))) from rfl,M.b_ok]
     rw[show jbf 1 [("_law_script",0)] [some (scr ns),some (.int (n:Int)),some (nl qs),y3,y4,y5,none]=[none,some (scr ns)] from rfl,cm,Option.bind_some,jug (by rw[List.length_map];omega)]
     rfl)]
   have cat:gCat (nl qs) (nl tw)=some (nl (qs++tw)):=by
    unfold nl
    rw[jva (by rw[List.length_map,List.length_map];have:=O.l;exact Nat.le_trans (show qs.length+tw.length≤126 by omega) (by decide)),← List.map_append]
   exact jA4 (jns rfl rfl cat)
  rw[h];rfl
end
noncomputable section
noncomputable def bad(c:List Int):Nat→List Int→List Nat
 | _,[]=>[]
 | i,x::cs=>if c.getD i 0<x then i::bad c (i+1) cs else bad c (i+1) cs
theorem jix(c:List Int)(i:Nat)(x:Int)(cs:List Int):bad c i (x::cs)=if c.getD i 0<x then i::bad c (i+1) cs else bad c (i+1) cs:=rfl
theorem jt0(c:List Int):∀ (cs:List Int) (i:Nat),(bad c i cs).length≤cs.length
 | [],_=>Nat.le_refl _
 | x::cs,i=>by
  rw[jix]
  have:=jt0 c cs (i+1)
  split
  ·rw[List.length_cons,List.length_cons];omega
  ·rw[List.length_cons];omega
theorem jos(c:List Int):∀ (cs:List Int) (i:Nat),i+cs.length≤c.length→(bad c i cs).isEmpty=(cs.zip (c.drop i)).all fun p=>decide (p.1≤p.2)
 | [],_,_=>by rw[List.zip_nil_left];rfl
 | x::cs,i,h=>by
  rw[List.length_cons] at h
  have hi:i<c.length:=by omega
  rw[List.drop_eq_getElem_cons hi,List.zip_cons_cons,List.all_cons,← jos c cs (i+1) (by omega)]
  have e:c.getD i 0=c[i]:=by rw[List.getD_eq_getElem?_getD,List.getElem?_eq_getElem hi];rfl
  rw[jix]
  rw[e]
  by_cases z:c[i]<x
  ·rw[if_pos z,decide_eq_false (show ¬ x≤c[i] by omega),Bool.false_and];rfl
  ·rw[if_neg z,decide_eq_true (show x≤c[i] by omega),Bool.true_and]
theorem jmq(c:List Int):∀ (cs:List Int) (i:Nat) (x y:Option D),i+cs.length≤c.length →
  jbx (jcc 0 1) (t2 gGt (fVar 1) (f2 gIx (fVar 2) (fVar 0))) je7 (jdv (i:Int) (cs.map .int)) [x,y,some (.lst (c.map .int))]=some ((bad c i cs).map fun k:Nat=>D.int (k:Int))
 | [],_,_,_,_=>rfl
 | a::cs,i,x,y,h=>by
  rw[List.length_cons] at h
  have hi:i<c.length:=by omega
  have ih:=jmq c cs (i+1) (some (.int (i:Int))) (some (.int a)) (by omega)
  have en:jdv (i:Int) ((a::cs).map .int)=.tup [.int (i:Int),.int a]::jdv (((i+1:Nat)):Int) (cs.map .int):=rfl
  have ht:t2 gGt (fVar 1) (f2 gIx (fVar 2) (fVar 0)) [some (.int (i:Int)),some (.int a),some (.lst (c.map .int))]=some (.ok (decide (c.getD i 0<a))):=by
   rw[e_t2,e_2]
   simp only[jnr,List.getElem?_cons_zero,List.getElem?_cons_succ,Option.join_some,M.o_some,M.b_ok,M.b_p,jlh,show gIx (.lst (c.map D.int)) (.int (i:Int))=some (.int (c.getD i 0)) from at_c hi,gt_int,jtz]
   rfl
  rw[en]
  conv=>lhs;unfold jbx
  rw[show jcc 0 1 (.tup [.int (i:Int),.int a]) [x,y,some (.lst (c.map .int))]=some [some (.int (i:Int)),some (.int a),some (.lst (c.map .int))] from rfl]
  dsimp only
  rw[ht]
  rw[jix]
  by_cases z:c.getD i 0<a
  ·rw[decide_eq_true z,if_pos z]
   dsimp only
   rw[show je7 [some (.int (i:Int)),some (.int a),some (.lst (c.map .int))]=some (.ok (.int (i:Int))) from rfl]
   dsimp only
   rw[ih];rfl
  ·rw[decide_eq_false z,if_neg z]
   dsimp only
   rw[ih]
theorem jyk{ds:List D}(h:okDs ds=true)(h2:depDs ds≤19):gEq (.lst ds) (.lst [])=some (.bl ds.isEmpty):=by
 unfold gEq
 rw[if_pos]
 ·congr 2
  cases ds with
  | nil=>unfold eqB;unfold eqBs;rfl
  | cons d ds=>unfold eqB;unfold eqBs;rfl
 ·rw[Bool.and_eq_true,Bool.and_eq_true,decide_eq_true_eq]
  refine⟨⟨h,rfl⟩,?_⟩
  show depDs ds+1≤20
  omega
theorem jA0{i n:Nat}{f:DSt→M D}{δ:DSt}{Ω:Sto}{ds:List D}{d:D}(h1:(δ[i]?).join=some (.obj n))(h2:Ω[n]? = some (.lst ds))(h3:f (δ.set i (some (.lst ds)))=some (.ok d))(h4:jfw d=true):jp7 i f δ Ω=some (.ok d,Ω):=by
 unfold jp7
 rw[h1]
 dsimp only
 rw[h2]
 dsimp only
 unfold MS.l jyl
 rw[h3,M.b_ok,if_pos h4];rfl
theorem jpf{H n:Nat}{Ω:Sto}{c:List Int}{r:Row}(h1:Ω[n]? = some (.lst (c.map .int)))(hc:c.length=H)(K:Ok H r)(hH:H≤900):jch [.obj n,rowD r] Ω=some (.ok (.bl (canT c r)),Ω):=by
 unfold jch
 rw[jiq]
 show (MS.b (jdx [some (.obj n),some (rowD r)]) outE) Ω=_
 suffices h:jdx [some (.obj n),some (rowD r)] Ω=some (.ok (.rt (.bl (canT c r))),Ω) by
  rw[v_b h];rfl
 have ix:mIxL (lF (fVar 0)) (lF (f2 gIx (fVar 1) (fC (.int 0)))) [some (.obj n),some (rowD r)] Ω=some (.ok (.int (c.getD r.h 0)),Ω) :=
  jlc (u_l rfl) (u_l (by simp only[stp,jk2];rfl)) h1 (at_c (by rw[hc];exact K.h))
 have tst:mB (m2 gNe (lF (f2 gIx (fVar 1) (fC (.int 1)))) (mIxL (lF (fVar 0)) (lF (f2 gIx (fVar 1) (fC (.int 0)))))) [some (.obj n),some (rowD r)] Ω=some (.ok !(r.n == c.getD r.h 0),Ω) :=
  u_B (u_2 (u_l (by simp only[stp,jod];rfl)) ix (ne_s _ _))
 unfold jdx
 by_cases hn:r.n=c.getD r.h 0
 ·have e1:(r.n == c.getD r.h 0)=true:=by simpa using hn
  rw[e1] at tst
  rw[jdu tst]
  have cm:=jmq c r.cs 0 none none (by rw[K.c,hc];omega)
  have em:=jos c r.cs 0 (by rw[K.c,hc];omega)
  rw[List.drop_zero] at em
  have hb:=jt0 c r.cs 0
  rw[K.c] at hb
  have nn:gEq (.lst ((bad c 0 r.cs).map fun k:Nat=>D.int (k:Int))) (.lst [])=some (.bl (canT c r)):=by
   rw[jyk]
   ·congr 2
    unfold canT
    rw[e1,Bool.true_and,← em]
    cases bad c 0 r.cs<;>rfl
   ·exact jfr fun _ _=>rfl
   ·have:=jeg (f:=fun k:Nat=>D.int (k:Int)) (k:=0) (xs:=bad c 0 r.cs) fun _ _=>Nat.le_refl 0
    omega
  have l1:jcn ((bad c 0 r.cs).map fun k:Nat=>D.int (k:Int))=some (.lst ((bad c 0 r.cs).map fun k:Nat=>D.int (k:Int))):=jug (by rw[List.length_map];omega)
  refine jol (jA0 (n:=n) (ds:=c.map .int) rfl h1 ?_ rfl)
  show f2 gEq _ _ [some (.lst (c.map .int)),some (rowD r)]=_
  refine jns (x:=.lst ((bad c 0 r.cs).map fun k:Nat=>D.int (k:Int))) (y:=.lst []) ?_ rfl nn
  simp only[jpb,jpd,jpc,jyc,jnr,e_2,e_C,List.getElem?_cons_zero,List.getElem?_cons_succ,Option.join_some,M.o_some,M.b_ok,M.b_p,jlh,jAd,show jfh [.tup (r.cs.map D.int)]=some (jdv 0 (r.cs.map .int)) from rfl,jq5,List.replicate_succ,List.replicate_zero,List.map_cons,List.map_nil,List.cons_append,List.nil_append]
  rw[show jdv 0 (r.cs.map D.int)=jdv ((0:Nat):Int) (r.cs.map D.int) from rfl,cm]
  simp only[Option.bind_some,l1]
  rfl
 ·have e1:(r.n == c.getD r.h 0)=false:=by simpa using hn
  rw[e1] at tst
  have:canT c r=false:=by unfold canT;rw[e1];rfl
  rw[this]
  exact jhx tst (u_l rfl)
end
noncomputable section
noncomputable def kT(r:Row):D:=.tup [.int (r.h:Int),.int r.n]
structure S3(H:Nat)(Ω:Sto)(M:Nat)(c:List Int)(hd tk:List Row):Prop where
 r:Ω[M]? = some (.lst (c.map .int))
 t:Ω[M+1]? = some (.lst (tk.map rowD))
 d:Ω[M+2]? = some (.dct (hdD hd))
 l:c.length=H
 k:∀ r∈hd,Ok H r
 b:tk.length+hd.length≤10000
structure FrM(M:Nat)(Ω Ω':Sto):Prop where
 l:Ω'.length=Ω.length
 e:∀ i,i<M∨M+2<i→Ω'[i]? = Ω[i]?
theorem FrM.refl(M:Nat)(Ω:Sto):FrM M Ω Ω:=⟨rfl,fun _ _=>rfl⟩
theorem FrM.trans{M:Nat}{Ω Ω1 Ω2:Sto}(a:FrM M Ω Ω1)(b:FrM M Ω1 Ω2):FrM M Ω Ω2:=⟨b.l.trans a.l,fun i h=>(b.e i h).trans (a.e i h)⟩
theorem FrM.set{M:Nat}{Ω:Sto}{k:Nat}{x:SO}(h1:M≤k)(h2:k≤M+2):FrM M Ω (Ω.set k x):=⟨List.length_set,fun i h=>List.getElem?_set_ne (by omega)⟩
structure HdOk(hd:List Row):Prop where
 nd:(hd.map keyR).Nodup
 len:hd.length<64
 num:∀ r∈hd,0≤r.n∧r.n<1000
theorem HdOk.drop{hd:List Row}(h:HdOk hd)(r:Row):HdOk (jfe hd r) :=
 ⟨h.nd.sublist ((List.filter_sublist).map keyR),Nat.lt_of_le_of_lt (List.length_filter_le _ _) h.len,fun q hq=>h.num q (List.mem_filter.mp hq).1⟩
theorem HdOk.keys{hd:List Row}(h:HdOk hd):KeysNd hd:=jpv h.nd
theorem jpw:∀ hd:List Row,jfl (hd.map kT)=some (hd.map fun r=>((r.h:Int),r.n))
 | []=>rfl
 | r::hd=>by
  rw[List.map_cons,List.map_cons]
  unfold jfl
  rw[jpw hd];rfl
theorem HdOk.ok{hd:List Row}(h:HdOk hd):okK (hd.map fun r=>((r.h:Int),r.n))=true:=by
 unfold okK
 rw[Bool.and_eq_true,Bool.and_eq_true,decide_eq_true_eq,List.length_map]
 refine⟨⟨h.len,?_⟩,?_⟩
 ·rw[List.all_map,List.all_eq_true]
  intro r hr
  have:=h.num r hr
  show (decide (0≤r.n)&&decide (r.n<1000))=true
  rw[decide_eq_true this.1,decide_eq_true this.2];rfl
 ·rw[decide_eq_true_eq,List.map_map]
  have nd:=h.nd
  unfold List.Nodup at nd ⊢
  rw[List.pairwise_map] at nd ⊢
  refine nd.imp_of_mem fun {a b} ha hb e z=>e ?_
  have h1:=h.num a ha
  have h2:=h.num b hb
  have z':(a.h:Int)*1000+a.n=(b.h:Int)*1000+b.n:=z
  unfold keyR
  rw[show (a.h:Int)=b.h by omega,show a.n=b.n by omega]
theorem srt{δ:DSt}{Ω:Sto}{n:Nat}{fl:DSt→MS (List D)}{hd:List Row}(h1:fl δ Ω=some (.ok [.obj n],Ω))(h2:Ω[n]? = some (.dct (hdD hd)))(h:HdOk hd):∀ g:List D→MS D,(MS.b (fl δ) fun xs=>(jmg xs).b g) Ω=g (je1 (hd.map kT)) Ω:=by
 intro g
 rw[v_b h1]
 refine v_b ?_
 unfold jmg
 dsimp only
 rw[h2]
 dsimp only
 have ek:(hdD hd).map keyT=hd.map kT:=by unfold hdD;rw[List.map_map];rfl
 rw[ek,jpw hd]
 dsimp only
 have ha:((hdD hd).all fun p=>decide (p.1.length=2))=true:=by
  unfold hdD
  rw[List.all_map,List.all_eq_true]
  exact fun _ _=>rfl
 rw[if_pos ⟨h.ok,ha⟩]
section
variable {δ:DSt}{Ω Ω1 Ω2:Sto}
theorem jtw{g:List (List Int×D)→List Int→Option (D×List (List Int×D))}{n:Nat}{r:Row}{kvs kvs':List (List Int×D)}{d:D}(h1:Ω[n]? = some (.dct kvs))(h2:g kvs (keyR r)=some (d,kvs')):atS g (.obj n) (kT r) Ω=some (.ok d,Ω.set n (.dct kvs')):=by
 unfold atS kT
 exact jtv h1 h2
theorem jAy{fo fi:DSt→MS D}{n:Nat}{r:Row}{kvs:List (List Int×D)}{d:D}(h1:fo δ Ω=some (.ok (.obj n),Ω))(h2:fi δ Ω=some (.ok (kT r),Ω))(h3:Ω[n]? = some (.dct kvs))(h4:jc6 kvs (keyR r)=some d):jp6 fo fi δ Ω=some (.ok d,Ω):=by
 unfold jp6
 rw[v_b h1,v_b h2,jtw (g:=gIxD) (d:=d) (kvs':=kvs) h3 (by unfold gIxD;rw[h4];rfl),jdt h3]
theorem jA1{fo fi:DSt→MS D}{n:Nat}{r:Row}{kvs:List (List Int×D)}{d:D}(h1:fo δ Ω=some (.ok (.obj n),Ω))(h2:fi δ Ω=some (.ok (kT r),Ω))(h3:Ω[n]? = some (.dct kvs))(h4:jc6 kvs (keyR r)=some d):jp8 fo fi δ Ω=some (.ok d,Ω.set n (.dct (delD kvs (keyR r)))):=by
 unfold jp8
 rw[v_b h1,v_b (c_D h3),v_b h2]
 exact jtw (g:=jja) h3 (by unfold jja;rw[h4];rfl)
theorem jxk{fo fa:DSt→MS D}{n:Nat}{es ds:List D}{d:D}(h1:fo δ Ω=some (.ok (.obj n),Ω))(h0:Ω[n]? = some (.lst es))(h3:fa δ Ω=some (.ok d,Ω1))(h2:Ω1[n]? = some (.lst ds))(h4:ds.length<sizeLine):jfz fo fa δ Ω=some (.ok .non,Ω1.set n (.lst (ds++[d]))):=by
 unfold jfz
 have c:chkL (.obj n) Ω=some (.ok (.obj n),Ω):=by unfold chkL;dsimp only;rw[h0]
 rw[v_b h1,v_b c,v_b h3]
 unfold putL
 dsimp only
 rw[h2]
 dsimp only
 unfold gApL
 rw[if_pos h4];rfl
theorem jow{n h:Nat}{c:List Int}{f:DSt→M D}(h0:fVar 0 δ=some (.ok (.obj n)))(hf:f δ=some (.ok (.int (h:Int))))(h1:Ω[n]? = some (.lst (c.map .int)))(hh:h<c.length) :
  jkd (lF (fVar 0)) (lF f) (m2 gCat (mIxL (lF (fVar 0)) (lF f)) (lF (fC (.int 1)))) δ Ω=some (.ok (.nx δ),Ω.set n (.lst ((bmp c h).map .int))):=by
 rw[jro (n:=n) (k:=h) (ds:=c.map .int) (d:=.int (c.getD h 0+1)) (u_2 (jlc (u_l h0) (u_l hf) h1 (at_c hh)) (u_l rfl) (jlj _ _)) (u_l h0) (u_l hf) h1 (by rw[List.length_map];exact hh)]
 unfold bmp
 rw[List.map_set]
theorem jsc{g:DSt→MS Out}{tg:D→DSt→Option DSt}{d:D}{ds:List D}{δ1 δ2:DSt}(h1:tg d δ=some δ1)(h2:g δ1 Ω=some (.ok (.bk δ2),Ω1)):forE g tg (d::ds) δ Ω=some (.ok (.nx δ2),Ω1):=by
 conv=>lhs;unfold forE
 rw[h1]
 dsimp only
 rw[v_b h2]
 rfl
end
theorem S3.step{H M:Nat}{Ω:Sto}{c:List Int}{hd tk:List Row}{r:Row}{Ω':Sto}(S:S3 H Ω M c hd tk)(hr:r∈hd)(e:Ω'=((Ω.set (M+2) (.dct (hdD (jfe hd r)))).set (M+1) (.lst (tk.map rowD++[rowD r]))).set M (.lst ((bmp c r.h).map .int))):S3 H Ω' M (bmp c r.h) (jfe hd r) (tk++[r])∧FrM M Ω Ω':=by
 have hl:M+2<Ω.length:=(List.getElem?_eq_some_iff.mp S.d).1
 have fl:=jke hr
 have hb:=S.b
 subst e
 refine⟨⟨?_,?_,?_,by rw[je5];exact S.l,fun q hq=>S.k q (List.mem_filter.mp hq).1,?_⟩,((FrM.set (by omega) (by omega)).trans (FrM.set (by omega) (by omega))).trans (FrM.set (by omega) (by omega))⟩
 ·rw[List.getElem?_set_self (by rw[List.length_set,List.length_set];omega)]
 ·rw[List.getElem?_set_ne (by omega),List.getElem?_set_self (by rw[List.length_set];omega),List.map_append];rfl
 ·rw[List.getElem?_set_ne (by omega),List.getElem?_set_ne (by omega),List.getElem?_set_self hl]
 ·rw[List.length_append];simp only[List.length_singleton];unfold jfe;omega
section
variable {H M:Nat}(hH:H≤900){Ω:Sto}{c:List Int}{hd tk:List Row}
include hH
theorem jvm(S:S3 H Ω M c hd tk)(nd:KeysNd hd){r:Row}(hr:r∈hd)(x3:Option D) :
  (canT c r=false∧jbb [some (.obj M),some (.obj (M+1)),some (.obj (M+2)),x3,some (kT r)] Ω=some (.ok (.nx [some (.obj M),some (.obj (M+1)),some (.obj (M+2)),x3,some (kT r)]),Ω)) ∨
  (canT c r=true∧∃ Ω',jbb [some (.obj M),some (.obj (M+1)),some (.obj (M+2)),x3,some (kT r)] Ω=some (.ok (.bk [some (.obj M),some (.obj (M+1)),some (.obj (M+2)),some (.bl true),some (kT r)]),Ω')∧S3 H Ω' M (bmp c r.h) (jfe hd r) (tk++[r])∧FrM M Ω Ω'):=by
 have lk:jc6 (hdD hd) (keyR r)=some (rowD r):=by
  rcases je9 hd (keyR r) with ⟨_,h2⟩|⟨q,h1,h2,h3⟩
  ·exact absurd rfl (h2 r hr)
  ·rw[h3,nd q h1 r hr h2]
 have K:=S.k r hr
 have hl:M+2<Ω.length:=(List.getElem?_eq_some_iff.mp S.d).1
 have tst:mTru (jfa jch (jar (lF (fVar 0)) (jar (jp6 (lF (fVar 2)) (lF (fVar 4))) (lF fNil)))) [some (.obj M),some (.obj (M+1)),some (.obj (M+2)),x3,some (kT r)] Ω=some (.ok (canT c r),Ω) :=
  jmh (by rw[jf9 (jav (u_l rfl) (jav (jAy (n:=M+2) (r:=r) (u_l rfl) (u_l rfl) S.d lk) (u_l rfl)))];exact jpf S.r S.l K hH)
 unfold jbb
 cases hc:canT c r with
 | false =>
  rw[hc] at tst
  refine .inl ⟨rfl,?_⟩
  rw[u_if tst,if_neg (by decide)]
  rfl
 | true =>
  rw[hc] at tst
  obtain⟨S',f'⟩:=S.step hr rfl
  refine .inr ⟨rfl,_,?_,S',f'⟩
  have ap:jfz (lF (fVar 1)) (jp8 (lF (fVar 2)) (lF (fVar 4))) [some (.obj M),some (.obj (M+1)),some (.obj (M+2)),x3,some (kT r)] Ω=some (.ok .non,(Ω.set (M+2) (.dct (hdD (jfe hd r)))).set (M+1) (.lst (tk.map rowD++[rowD r]))):=by
   have pp:=jA1 (δ:=[some (.obj M),some (.obj (M+1)),some (.obj (M+2)),x3,some (kT r)]) (fo:=lF (fVar 2)) (fi:=lF (fVar 4)) (n:=M+2) (r:=r) (u_l rfl) (u_l rfl) S.d lk
   rw[jt6] at pp
   exact jxk (n:=M+1) (u_l rfl) S.t pp (by rw[List.getElem?_set_ne (by omega)];exact S.t) (Nat.lt_of_le_of_lt (show (tk.map rowD).length≤10000 by rw[List.length_map];have:=S.b;omega) (by decide))
  rw[u_if tst,if_pos rfl,ja5 (jes ap)]
  rw[ja5 (jow (n:=M) (h:=r.h) (c:=c) rfl (by simp only[stp,show gIx (kT r) (.int 0)=some (.int (r.h:Int)) from DL.atI_get (j:=0) rfl];rfl) (by rw[List.getElem?_set_ne (by omega),List.getElem?_set_ne (by omega)];exact S.r) (by rw[S.l];exact K.h))]
  rw[ja5 (show lF (gSet 3 (fC (.bl true))) [some (.obj M),some (.obj (M+1)),some (.obj (M+2)),x3,some (kT r)] _=some (.ok (.nx [some (.obj M),some (.obj (M+1)),some (.obj (M+2)),some (.bl true),some (kT r)]),_) from u_l rfl)]
  exact u_l rfl
theorem jln(S:S3 H Ω M c hd tk)(nd:KeysNd hd):∀ (zs:List D) (x3 x4:Option D),(∀ z∈zs,∃ r∈hd,z=kT r) →
  ((∀ r∈hd,kT r∈zs→canT c r=false)∧∃ y4,forE jbb (DL.gName 4) zs [some (.obj M),some (.obj (M+1)),some (.obj (M+2)),x3,x4] Ω=some (.ok (.nx [some (.obj M),some (.obj (M+1)),some (.obj (M+2)),x3,y4]),Ω)) ∨
  ∃ r pre post,r∈hd∧canT c r=true∧zs=pre++kT r::post∧(∀ q∈hd,kT q∈pre→canT c q=false)∧∃ Ω',forE jbb (DL.gName 4) zs [some (.obj M),some (.obj (M+1)),some (.obj (M+2)),x3,x4] Ω=some (.ok (.nx [some (.obj M),some (.obj (M+1)),some (.obj (M+2)),some (.bl true),some (kT r)]),Ω')∧S3 H Ω' M (bmp c r.h) (jfe hd r) (tk++[r])∧FrM M Ω Ω'
 | [],x3,x4,_=>.inl ⟨fun _ _ h=>(nomatch h),x4,rfl⟩
 | z::zs,x3,x4,hz=>by
  obtain⟨r,hr,rfl⟩:=hz z List.mem_cons_self
  have inj:∀ q∈hd,kT q=kT r→q=r:=fun q hq e=>nd q hq r hr (by
   unfold kT at e
   have e':=D.tup.inj e
   rw[List.cons.injEq,List.cons.injEq] at e'
   unfold keyR
   rw[D.int.inj e'.1,D.int.inj e'.2.1])
  rcases jvm hH S nd hr x3 with ⟨hc,e⟩|⟨hc,Ω',e,S',f'⟩
  ·rw[jlo (δ1:=[some (.obj M),some (.obj (M+1)),some (.obj (M+2)),x3,some (kT r)]) rfl (.inl e)]
   rcases jln S nd zs x3 (some (kT r)) (fun z h=>hz z (List.mem_cons_of_mem _ h)) with ⟨h1,y4,h2⟩|⟨q,pre,post,h1,h2,h3,h4,h5⟩
   ·refine .inl ⟨fun q hq h=>?_,y4,h2⟩
    rcases List.mem_cons.mp h with h|h
    ·rw[inj q hq h];exact hc
    ·exact h1 q hq h
   ·refine .inr ⟨q,kT r::pre,post,h1,h2,by rw[h3];rfl,fun p hp h=>?_,h5⟩
    rcases List.mem_cons.mp h with h|h
    ·rw[inj p hp h];exact hc
    ·exact h4 p hp h
  ·rw[jsc (δ1:=[some (.obj M),some (.obj (M+1)),some (.obj (M+2)),x3,some (kT r)]) rfl e]
   exact .inr ⟨r,[],zs,hr,hc,rfl,fun _ _ h=>(nomatch h),Ω',rfl,S',f'⟩
theorem jsa{c':List Int}{hd' tk':List Row}(F:Flush c hd tk c' hd' tk'):∀ (f:Nat) (Ω:Sto) (x4:Option D),hd.length+1<f→S3 H Ω M c hd tk→HdOk hd →
  ∃ Ω' y4,jdl jcl jci f [some (.obj M),some (.obj (M+1)),some (.obj (M+2)),some (.bl true),x4] Ω=some (.ok (.nx [some (.obj M),some (.obj (M+1)),some (.obj (M+2)),some (.bl false),y4]),Ω')∧S3 H Ω' M c' hd' tk'∧FrM M Ω Ω':=by
 have pass:∀ {c:List Int} {hd tk:List Row} {Ω:Sto} (x4:Option D),S3 H Ω M c hd tk→HdOk hd→jci [some (.obj M),some (.obj (M+1)),some (.obj (M+2)),some (.bl true),x4] Ω=forE jbb (DL.gName 4) (je1 (hd.map kT)) [some (.obj M),some (.obj (M+1)),some (.obj (M+2)),some (.bl false),x4] Ω:=fun {c hd tk Ω} x4 S h=>by
  unfold jci
  rw[ja5 (show lF (gSet 3 (fC (.bl false))) [some (.obj M),some (.obj (M+1)),some (.obj (M+2)),some (.bl true),x4] Ω=some (.ok (.nx [some (.obj M),some (.obj (M+1)),some (.obj (M+2)),some (.bl false),x4]),Ω) from u_l rfl)]
  rw[jw4]
  refine v_b ?_
  show (MS.b (jhm (jar (lF (fVar 2)) (lF fNil)) [some (.obj M),some (.obj (M+1)),some (.obj (M+2)),some (.bl false),x4]) _) Ω=_
  rw[v_b (show jhm (jar (lF (fVar 2)) (lF fNil)) [some (.obj M),some (.obj (M+1)),some (.obj (M+2)),some (.bl false),x4] Ω=some (.ok (.lst (je1 (hd.map kT))),Ω) from srt (n:=M+2) (jav (u_l rfl) (u_l rfl)) S.d h _)]
  rfl
 have mem:∀ {hd:List Row},∀ z∈je1 (hd.map kT),∃ r∈hd,z=kT r:=fun {hd} z hz=>by
  obtain⟨r,h1,h2⟩:=List.mem_map.mp ((jdd _).mem_iff.mp hz)
  exact⟨r,h1,h2.symm⟩
 have rev:∀ {hd:List Row} {r:Row},r∈hd→kT r∈je1 (hd.map kT):=fun {hd r} hr=>(jdd _).mem_iff.mpr (List.mem_map.mpr ⟨r,hr,rfl⟩)
 induction F with
 | @done c hd tk h =>
  intro f Ω x4 hf S ho
  obtain⟨f,rfl⟩:∃ g,f=g+2:=⟨f-2,by omega⟩
  rcases jln hH S ho.keys (je1 (hd.map kT)) (some (.bl false)) x4 mem with ⟨_,y4,e⟩|⟨r,_,_,h1,h2,_⟩
  ·refine⟨Ω,y4,?_,S,FrM.refl _ _⟩
   rw[jhy (show jcl _ Ω=some (.ok true,Ω) from u_l rfl) ((pass x4 S ho).trans e)]
   exact jiu (u_l rfl)
  ·rw[h r h1] at h2;cases h2
 | @step c hd tk c' hd' tk' r h1 h2 h3 F ih =>
  intro f Ω x4 hf S ho
  obtain⟨f,rfl⟩:∃ g,f=g+1:=⟨f-1,by omega⟩
  rcases jln hH S ho.keys (je1 (hd.map kT)) (some (.bl false)) x4 mem with ⟨z1,_⟩|⟨q,pre,post,q1,q2,q3,q4,Ω1,e,S1,f1⟩
  ·rw[z1 r h1 (rev h1)] at h2;cases h2
  ·have hqr:q=r:=by
    have ge:=h3 q q1 q2
    have nq:=jic q2
    have nr:=jic h2
    have hin:=rev h1
    rw[q3] at hin
    have pw:=jni (hd.map kT)
    rw[q3,List.pairwise_append] at pw
    rcases List.mem_append.mp hin with z|z
    ·rw[q4 r h1 z] at h2;cases h2
    ·rcases List.mem_cons.mp z with z|z
     ·refine ho.keys q q1 r h1 ?_
      unfold kT at z
      have e':=D.tup.inj z
      rw[List.cons.injEq,List.cons.injEq] at e'
      unfold keyR
      rw[D.int.inj e'.1,D.int.inj e'.2.1]
     ·have le:=(List.pairwise_cons.mp pw.2.1).1 _ z
      have b1:=ho.num q q1
      have b2:=ho.num r h1
      have le':(q.h:Int)*1000+q.n≤(r.h:Int)*1000+r.n:=le
      have eh:q.h=r.h:=by omega
      refine ho.keys q q1 r h1 ?_
      unfold keyR
      rw[nq,nr,eh]
   subst hqr
   have fl:=jke q1
   obtain⟨Ω',y4,e',S',f'⟩:=ih f Ω1 (some (kT q)) (by unfold jfe;omega) S1 (ho.drop q)
   refine⟨Ω',y4,?_,S',f1.trans f'⟩
   rw[jhy (show jcl _ Ω=some (.ok true,Ω) from u_l rfl) ((pass x4 S ho).trans e)]
   exact e'
theorem jBo{c':List Int}{hd' tk':List Row}(F:Flush c hd tk c' hd' tk')(S:S3 H Ω M c hd tk)(ho:HdOk hd):∃ Ω',jc7 [.obj M,.obj (M+1),.obj (M+2)] Ω=some (.ok .non,Ω')∧S3 H Ω' M c' hd' tk'∧FrM M Ω Ω':=by
 have:=ho.len
 obtain⟨Ω',y4,e,S',f'⟩:=jsa hH F FUEL Ω none (by rw[jlf];omega) S ho
 refine⟨Ω',?_,S',f'⟩
 unfold jc7
 rw[jAi]
 show (MS.b (jb8 [some (.obj M),some (.obj (M+1)),some (.obj (M+2)),none,none]) outE) Ω=_
 have h:jb8 [some (.obj M),some (.obj (M+1)),some (.obj (M+2)),none,none] Ω=some (.ok (.nx [some (.obj M),some (.obj (M+1)),some (.obj (M+2)),some (.bl false),y4]),Ω'):=by
  unfold jb8
  rw[ja5 (show lF (gSet 3 (fC (.bl true))) [some (.obj M),some (.obj (M+1)),some (.obj (M+2)),none,none] Ω=some (.ok (.nx [some (.obj M),some (.obj (M+1)),some (.obj (M+2)),some (.bl true),none]),Ω) from u_l rfl)]
  exact e
 rw[v_b h];rfl
end
end
noncomputable section
theorem jk6{r:Row}{δ:DSt}{i:Nat}(h:fVar i δ=some (.ok (rowD r))):fSl (fVar i) jf1 (jec (fC (.int 2))) δ=some (.ok (kT r)):=by
 unfold fSl jf1 jec
 rw[h]
 rfl
theorem jux{N:Nat}{g:DSt→MS Out}(x0 x1 x2 x3:D):mirE 4 N g [x0,x1,x2,x3]=(g (some x0::some x1::some x2::some x3::List.replicate (N-4) none)).b outE:=rfl
section
variable {H M:Nat}(hH:H≤900){Ω:Sto}{c:List Int}{hd tk:List Row}{r:Row}
include hH
theorem jx8{w:Str}{c':List Int}{hd' tk':List Row}(T:Took c hd tk r w c' hd' tk')(S:S3 H Ω M c hd tk)(ho:HdOk hd)(K:Ok H r)(hB:tk.length+hd.length+1≤10000) :
  ∃ Ω',jd0 [.obj M,.obj (M+1),.obj (M+2),rowD r] Ω=some (.ok (.str w),Ω')∧S3 H Ω' M c' hd' tk'∧FrM M Ω Ω':=by
 have hl:M+2<Ω.length:=(List.getElem?_eq_some_iff.mp S.d).1
 have tst:mB (m2 gLt (lF (f2 gIx (fVar 3) (fC (.int 1)))) (mIxL (lF (fVar 0)) (lF (f2 gIx (fVar 3) (fC (.int 0)))))) [some (.obj M),some (.obj (M+1)),some (.obj (M+2)),some (rowD r)] Ω=some (.ok (decide (r.n<c.getD r.h 0)),Ω) :=
  u_B (u_2 (u_l (by simp only[stp,jod];rfl)) (jlc (u_l rfl) (u_l (by simp only[stp,jk2];rfl)) S.r (at_c (by rw[S.l];exact K.h))) (lt_int _ _))
 have fit:mNot (mTru (jfa jch (jar (lF (fVar 0)) (lF (jae (fVar 3) fNil))))) [some (.obj M),some (.obj (M+1)),some (.obj (M+2)),some (rowD r)] Ω=some (.ok !(canT c r),Ω) :=
  jrn (jmh (by rw[jf9 (jav (u_l rfl) (u_l rfl))];exact jpf S.r S.l K hH))
 have fin:∀ {Ω':Sto},jcq [some (.obj M),some (.obj (M+1)),some (.obj (M+2)),some (rowD r)] Ω=some (.ok (.rt (.str w)),Ω')→jd0 [.obj M,.obj (M+1),.obj (M+2),rowD r] Ω=some (.ok (.str w),Ω'):=fun {Ω'} h=>by
  unfold jd0
  rw[jux]
  show (MS.b (jcq [some (.obj M),some (.obj (M+1)),some (.obj (M+2)),some (rowD r)]) outE) Ω=_
  rw[v_b h];rfl
 have notin:mB (jhl (lF (fSl (fVar 3) jf1 (jec (fC (.int 2))))) (lF (fVar 2))) [some (.obj M),some (.obj (M+1)),some (.obj (M+2)),some (rowD r)] Ω=some (.ok (!(jc6 (hdD hd) (keyR r)).isSome),Ω):=by
  refine u_B ?_
  unfold jhl
  rw[v_b (show lF (fSl (fVar 3) jf1 (jec (fC (.int 2)))) [some (.obj M),some (.obj (M+1)),some (.obj (M+2)),some (rowD r)] Ω=some (.ok (kT r),Ω) from u_l (jk6 rfl)),v_b (show lF (fVar 2) [some (.obj M),some (.obj (M+1)),some (.obj (M+2)),some (rowD r)] Ω=some (.ok (.obj (M+2)),Ω) from u_l rfl)]
  rw[jtw (g:=jvo) (d:=.bl (!(jc6 (hdD hd) (keyR r)).isSome)) (kvs':=hdD hd) S.d rfl,jdt S.d]
 cases T with
 | known h =>
  rw[decide_eq_true h] at tst
  refine⟨Ω,fin ?_,S,FrM.refl _ _⟩
  unfold jcq
  exact jhx tst (u_l rfl)
 | old h0 h1 q h2 h3 =>
  rw[decide_eq_false h0] at tst
  rw[h1] at fit
  refine⟨Ω,fin ?_,S,FrM.refl _ _⟩
  unfold jcq
  rw[jdu tst]
  refine jhx fit ?_
  rcases je9 hd (keyR r) with ⟨_,z2⟩|⟨q',z1,z2,z3⟩
  ·exact absurd h3 (z2 q h2)
  ·rw[z3] at notin
   rw[jdu notin]
   exact u_l rfl
 | new h0 h1 h2 =>
  rw[decide_eq_false h0] at tst
  rw[h1] at fit
  have lk:jc6 (hdD hd) (keyR r)=none:=by
   rcases je9 hd (keyR r) with ⟨z1,_⟩|⟨q',z1,z2,z3⟩
   ·exact z1
   ·exact absurd z2 (h2 q' z1)
  rw[lk] at notin
  have hz:(hdD hd).length<sizeLine:=by
   unfold hdD
   rw[List.length_map]
   exact Nat.lt_of_le_of_lt (show hd.length≤10000 by omega) (by decide)
  have put:jr6 (lF (fVar 2)) (lF (fSl (fVar 3) jf1 (jec (fC (.int 2))))) (lF (fVar 3)) [some (.obj M),some (.obj (M+1)),some (.obj (M+2)),some (rowD r)] Ω=some (.ok (.nx [some (.obj M),some (.obj (M+1)),some (.obj (M+2)),some (rowD r)]),Ω.set (M+2) (.dct (hdD (hd++[r])))):=by
   unfold jr6
   rw[v_b (show lF (fVar 3) [some (.obj M),some (.obj (M+1)),some (.obj (M+2)),some (rowD r)] Ω=some (.ok (rowD r),Ω) from u_l rfl),v_b (show lF (fVar 2) [some (.obj M),some (.obj (M+1)),some (.obj (M+2)),some (rowD r)] Ω=some (.ok (.obj (M+2)),Ω) from u_l rfl),v_b (show lF (fSl (fVar 3) jf1 (jec (fC (.int 2)))) [some (.obj M),some (.obj (M+1)),some (.obj (M+2)),some (rowD r)] Ω=some (.ok (kT r),Ω) from u_l (jk6 rfl))]
   rw[v_b (jtw (g:=jse (rowD r)) (d:=.non) (kvs':=hdD (hd++[r])) S.d (by
    unfold jse
    rw[if_pos ⟨by rw[lk];rfl,hz⟩]
    unfold hdD
    rw[List.map_append];rfl))]
   rfl
  refine⟨Ω.set (M+2) (.dct (hdD (hd++[r]))),fin ?_,⟨by rw[List.getElem?_set_ne (by omega)];exact S.r,by rw[List.getElem?_set_ne (by omega)];exact S.t,by rw[List.getElem?_set_self hl],S.l,fun q hq=>?_,by rw[List.length_append];simp only[List.length_singleton];omega⟩,FrM.set (by omega) (by omega)⟩
  ·unfold jcq
   rw[jdu tst]
   refine jhx fit ?_
   rw[ja5 ((u_if notin).trans ((congrFun (if_pos rfl) Ω).trans put))]
   exact u_l rfl
  ·rcases List.mem_append.mp hq with hq|hq
   ·exact S.k q hq
   ·rw[List.mem_singleton.mp hq];exact K
 | taken h1 F =>
  have h0:¬ r.n<c.getD r.h 0:=by have:=jic h1;omega
  rw[decide_eq_false h0] at tst
  rw[h1] at fit
  let Ω1:=Ω.set (M+1) (.lst (tk.map rowD++[rowD r]))
  let Ω2:=Ω1.set M (.lst ((bmp c r.h).map .int))
  have S2:S3 H Ω2 M (bmp c r.h) hd (tk++[r]):=by
   refine⟨?_,?_,?_,by rw[je5];exact S.l,S.k,by rw[List.length_append];simp only[List.length_singleton];omega⟩
   ·rw[List.getElem?_set_self (by rw[List.length_set];omega)]
   ·rw[List.getElem?_set_ne (by omega),List.getElem?_set_self (by omega),List.map_append];rfl
   ·rw[List.getElem?_set_ne (by omega),List.getElem?_set_ne (by omega)];exact S.d
  obtain⟨Ω',e',S',f'⟩:=jBo hH F S2 ho
  refine⟨Ω',fin ?_,S',((FrM.set (by omega) (by omega)).trans (FrM.set (by omega) (by omega))).trans f'⟩
  unfold jcq
  rw[jdu tst,jdu fit]
  rw[ja5 (jes (show jfz (lF (fVar 1)) (lF (fVar 3)) [some (.obj M),some (.obj (M+1)),some (.obj (M+2)),some (rowD r)] Ω=some (.ok .non,Ω1) from jrl (u_l rfl) S.t (u_l rfl) (Nat.lt_of_le_of_lt (show (tk.map rowD).length≤10000 by rw[List.length_map];omega) (by decide))))]
  rw[ja5 (jow (Ω:=Ω1) (n:=M) (h:=r.h) (c:=c) rfl (by simp only[stp,jk2];rfl) (by rw[List.getElem?_set_ne (by omega)];exact S.r) (by rw[S.l];exact K.h))]
  rw[ja5 (jes (by rw[jf9 (jav (u_l rfl) (jav (u_l rfl) (jav (u_l rfl) (u_l rfl))))];exact e'))]
  exact u_l rfl
end
end
noncomputable section
theorem jl5:∀ {ds:List D},(∀ d∈ds,okD d=true)→okDs ds=true
 | [],_=>by unfold okDs;rfl
 | d::ds,h=>by unfold okDs;rw[h d List.mem_cons_self,jl5 fun y hy=>h y (List.mem_cons_of_mem _ hy)];rfl
theorem ji8{k:Nat}:∀ {ds:List D},(∀ d∈ds,depD d≤k)→depDs ds≤k
 | [],_=>by unfold depDs;omega
 | d::ds,h=>by
  unfold depDs
  have h1:=h d List.mem_cons_self
  have h2:=ji8 (k:=k) (ds:=ds) fun y hy=>h y (List.mem_cons_of_mem _ hy)
  omega
structure FrA(Ω Ω':Sto):Prop where
 l:Ω.length≤Ω'.length
 e:∀ i,i<Ω.length→Ω'[i]? = Ω[i]?
theorem FrA.trans{Ω Ω1 Ω2:Sto}(a:FrA Ω Ω1)(b:FrA Ω1 Ω2):FrA Ω Ω2:=⟨Nat.le_trans a.l b.l,fun i h=>(b.e i (Nat.lt_of_lt_of_le h a.l)).trans (a.e i h)⟩
theorem FrA.app(Ω xs:Sto):FrA Ω (Ω++xs):=⟨by rw[List.length_append];omega,fun i h=>List.getElem?_append_left h⟩
section
variable {H B L M:Nat}{Ω Ω':Sto}{c:List Int}{hd tk:List Row}
theorem FrA.log(f:FrA Ω Ω')(A:LogAt H B Ω L c hd tk):LogAt H B Ω' L c hd tk:=by
 have hl:=A.len
 exact⟨(f.e L (by omega)).trans A.o,(f.e (L+1) (by omega)).trans A.t,A.b,(f.e (L+2) (by omega)).trans A.r,(f.e (L+3) (by omega)).trans A.d,A.l,A.k,A.s⟩
theorem FrA.s3(f:FrA Ω Ω')(S:S3 H Ω M c hd tk):S3 H Ω' M c hd tk:=by
 have hl:M+2<Ω.length:=(List.getElem?_eq_some_iff.mp S.d).1
 exact⟨(f.e M (by omega)).trans S.r,(f.e (M+1) (by omega)).trans S.t,(f.e (M+2) (by omega)).trans S.d,S.l,S.k,S.b⟩
theorem jp2(A:LogAt H B Ω L c hd tk):jdz [.obj L] Ω=some (.ok (.obj Ω.length),Ω++[.lst (tk.map rowD)]):=by
 unfold jdz
 rw[jip]
 show (MS.b (jdw [some (.obj L)]) outE) Ω=_
 have h:jdw [some (.obj L)] Ω=some (.ok (.rt (.obj Ω.length)),Ω++[.lst (tk.map rowD)]):=by
  unfold jdw
  refine jol ?_
  show (MS.b (jar (mGet ["Log"] "taken" (lF (fVar 0))) (lF fNil) [some (.obj L)]) jp1) Ω=_
  rw[v_b (jav (jrm (u_l rfl) A.o (lk_t L)) (u_l rfl))]
  unfold jp1
  dsimp only
  rw[A.t]
 rw[v_b h];rfl
theorem jp3(A:LogAt H B Ω L c hd tk)(ho:HdOk hd):jca [.obj L] Ω=some (.ok (.obj Ω.length),Ω++[.lst (je1 (hd.map kT))]):=by
 unfold jca
 rw[jip]
 show (MS.b (jb7 [some (.obj L)]) outE) Ω=_
 have h:jb7 [some (.obj L)] Ω=some (.ok (.rt (.obj Ω.length)),Ω++[.lst (je1 (hd.map kT))]):=by
  unfold jb7
  exact jol (srt (n:=L+3) (jav (hld A rfl) (u_l rfl)) A.d ho _)
 rw[v_b h];rfl
theorem jAz{δ:DSt}{n:Nat}{ds:List D}{fl:DSt→MS (List D)}(h:fl δ Ω=some (.ok [.obj n,.ty "list"],Ω))(h2:Ω[n]? = some (.lst ds)):(fun δ=>MS.b (fl δ) isiS) δ Ω=some (.ok (.bl true),Ω):=by
 show (MS.b (fl δ) isiS) Ω=_
 rw[v_b h]
 unfold isiS
 dsimp only
 have e:res1 Ω (.obj n)=some (.lst ds):=by unfold res1;dsimp only;rw[h2]
 rw[e]
 rfl
theorem u_or{ta tb:DSt→MS Bool}{δ:DSt}{Ω:Sto}{b:Bool}(h:ta δ Ω=some (.ok false,Ω))(h2:tb δ Ω=some (.ok b,Ω)):mOr ta tb δ Ω=some (.ok b,Ω):=by
 unfold mOr
 rw[v_b h,if_neg (by decide),h2]
theorem jCx{fa fb:DSt→MS D}{δ:DSt}{x y z:D}(h1:fa δ Ω=some (.ok x,Ω))(h2:fb δ Ω=some (.ok y,Ω))(hx:resD Ω x=some z)(hy:resD Ω y=some z)(o1:okD z=true)(o2:depD z≤20):mNeS fa fb δ Ω=some (.ok (.bl false),Ω):=by
 unfold mNeS
 rw[v_b h1,v_b h2]
 unfold neS
 rw[hx,hy]
 dsimp only
 rw[jl4 o1 o2];rfl
theorem jjc(A:LogAt H B Ω L c hd tk)(S:S3 H Ω M c hd tk)(ho:HdOk hd)(ht:∀ r∈tk,Ok H r):∃ Ω',jb0 [.obj L,.obj M,.obj (M+1),.obj (M+2)] Ω=some (.ok (.bl true),Ω')∧FrA Ω Ω':=by
 have hl:M+2<Ω.length:=(List.getElem?_eq_some_iff.mp S.d).1
 generalize hzs:je1 (hd.map kT)=zs
 have zk:∀ z∈zs,okD z=true∧depD z≤1:=fun z hz=>by
  rw[← hzs] at hz
  obtain⟨r,_,rfl⟩:=List.mem_map.mp ((jdd _).mem_iff.mp hz)
  exact⟨rfl,Nat.le_refl 1⟩
 let Ω1:=Ω++[SO.lst (tk.map rowD)]
 let Ω2:=Ω1++[SO.lst zs]
 have l1:Ω1.length=Ω.length+1:=by show (Ω++_).length=_;rw[List.length_append];rfl
 have l2:Ω2.length=Ω.length+2:=by show (Ω1++_).length=_;rw[List.length_append,l1];rfl
 have f1:FrA Ω Ω1:=FrA.app _ _
 have f2:FrA Ω Ω2:=f1.trans (FrA.app _ _)
 have A1:=f1.log A
 have A2:=f2.log A
 have S2:=f2.s3 S
 have g1:Ω2[Ω.length]? = some (.lst (tk.map rowD)):=by
  show (Ω1++_)[Ω.length]? = _
  rw[List.getElem?_append_left (by omega)]
  exact jd7 Ω _ 0
 have g2:Ω2[Ω.length+1]? = some (.lst zs):=by
  show (Ω1++_)[Ω.length+1]? = _
  rw[← l1]
  exact jd7 Ω1 _ 0
 let tl:D:=.lst [.obj Ω.length,.obj (Ω.length+1)]
 let δ:DSt:=[some (.obj L),some (.obj M),some (.obj (M+1)),some (.obj (M+2)),some tl]
 have w0:mL jcn (jar (jdh "Log" "rows" jdz (lF (fVar 0)) (lF fNil)) (jar (jdh "Log" "waiting" jca (lF (fVar 0)) (lF fNil)) (lF fNil))) [some (.obj L),some (.obj M),some (.obj (M+1)),some (.obj (M+2)),none] Ω=some (.ok tl,Ω2):=by
  have wt:=jp3 A1 ho
  rw[hzs,l1] at wt
  exact u_L (jav (by rw[jet (u_l rfl) A.o (jhj L (by decide) (by decide) (by decide)) (u_l rfl)];exact jp2 A) (jav (by rw[jet (u_l rfl) A1.o (jhj L (by decide) (by decide) (by decide)) (u_l rfl)];exact wt) (u_l rfl))) rfl
 have t0:m2 gIx (lF (fVar 4)) (lF (fC (.int 0))) δ Ω2=some (.ok (.obj Ω.length),Ω2):=u_2 (u_l rfl) (u_l rfl) (DL.atI_get (j:=0) rfl)
 have t1:m2 gIx (lF (fVar 4)) (lF (fC (.int 1))) δ Ω2=some (.ok (.obj (Ω.length+1)),Ω2):=u_2 (u_l rfl) (u_l rfl) (DL.atI_get (j:=1) rfl)
 have w1:mOr (mNot (mTru (fun δ=>MS.b ((jar (m2 gIx (lF (fVar 4)) (lF (fC (.int 0)))) (lF (jae (fC (.ty "list")) fNil))) δ) isiS))) (mNot (mTru (fun δ=>MS.b ((jar (m2 gIx (lF (fVar 4)) (lF (fC (.int 1)))) (lF (jae (fC (.ty "list")) fNil))) δ) isiS))) δ Ω2=some (.ok false,Ω2) :=
  u_or (jrn (b:=true) (jmh (jAz (jav t0 (u_l rfl)) g1))) (jrn (b:=true) (jmh (jAz (jav t1 (u_l rfl)) g2)))
 have kc:okD (.tup (c.map D.int))=true:=(jfr fun _ _=>rfl:okDs (c.map D.int)=true)
 have dc:depD (.tup (c.map D.int))≤20:=by
  show depDs _+1≤20
  have:=jeg (f:=D.int) (k:=0) (xs:=c) fun _ _=>Nat.le_refl 0
  omega
 have tc:(fun δ=>MS.b ((jar (lF (fVar 1)) (lF fNil)) δ) tupS) δ Ω2=some (.ok (.tup (c.map .int)),Ω2):=by
  show (MS.b (jar (lF (fVar 1)) (lF fNil) δ) tupS) Ω2=_
  rw[v_b (show jar (lF (fVar 1)) (lF fNil) δ Ω2=some (.ok [.obj M],Ω2) from jav (u_l rfl) (u_l rfl))]
  unfold tupS
  dsimp only
  rw[S2.r]
  dsimp only
  rw[if_pos (jdk c)]
 have tr:=jwg ht
 have w2:mOr (mB (m2 gNe (jdh "Log" "counts" jcs (lF (fVar 0)) (lF fNil)) (fun δ=>MS.b ((jar (lF (fVar 1)) (lF fNil)) δ) tupS))) (mB (mNeS (lF (fVar 4)) (mL jcn (jar (lF (fVar 2)) (jar (jhm (jar (lF (fVar 3)) (lF fNil))) (lF fNil)))))) δ Ω2=some (.ok false,Ω2):=by
  refine u_or (u_B (u_2 (by rw[jet (u_l rfl) A2.o (jhj L (by decide) (by decide) (by decide)) (u_l rfl)];exact jny A2) tc (jl4 kc dc))) (u_B ?_)
  have so:jhm (jar (lF (fVar 3)) (lF fNil)) δ Ω2=some (.ok (.lst zs),Ω2):=(srt (n:=M+2) (jav (u_l rfl) (u_l rfl)) S2.d ho _).trans (by rw[hzs];rfl)
  refine jCx (x:=tl) (y:=.lst [.obj (M+1),.lst zs]) (z:=.lst [.lst (tk.map rowD),.lst zs]) (u_l rfl) (u_L (jav (u_l rfl) (jav so (u_l rfl))) rfl) ?_ ?_ ?_ ?_
  ·have e1:res1 Ω2 (.obj Ω.length)=some (.lst (tk.map rowD)):=by unfold res1;dsimp only;rw[g1]
   have e2:res1 Ω2 (.obj (Ω.length+1))=some (.lst zs):=by unfold res1;dsimp only;rw[g2]
   show (resL Ω2 [.obj Ω.length,.obj (Ω.length+1)]).map D.lst=_
   unfold resL;unfold resL;unfold resL
   rw[e1,e2];rfl
  ·have e1:res1 Ω2 (.obj (M+1))=some (.lst (tk.map rowD)):=by unfold res1;dsimp only;rw[S2.t]
   show (resL Ω2 [.obj (M+1),.lst zs]).map D.lst=_
   unfold resL;unfold resL;unfold resL
   rw[e1];rfl
  ·show okDs [.lst (tk.map rowD),.lst zs]=true
   refine jl5 fun d hd=>?_
   rcases List.mem_cons.mp hd with rfl|hd
   ·exact tr.1
   ·rw[List.mem_singleton.mp hd]
    exact jl5 fun z hz=>(zk z hz).1
  ·show depDs [.lst (tk.map rowD),.lst zs]+1≤20
   have:depDs [D.lst (tk.map rowD),.lst zs]≤6:=ji8 fun d hd=>by
    rcases List.mem_cons.mp hd with rfl|hd
    ·show depDs _+1≤6
     have:=tr.2
     omega
    ·rw[List.mem_singleton.mp hd]
     show depDs _+1≤6
     have:=ji8 (k:=1) fun z hz=>(zk z hz).2
     omega
   omega
 let Ω3:=Ω2.set Ω.length (.lst [])
 let Ω4:=Ω3.set (Ω.length+1) (.lst (zs++[.tup [.int 0,.int 0]]))
 have w3:jsp (m2 gIx (lF (fVar 4)) (lF (fC (.int 0)))) δ Ω2=some (.ok .non,Ω3):=by
  unfold jsp
  rw[v_b t0]
  unfold putL
  dsimp only
  rw[g1];rfl
 have g3:Ω3[Ω.length+1]? = some (.lst zs):=by
  show (Ω2.set _ _)[Ω.length+1]? = _
  rw[List.getElem?_set_ne (by omega)];exact g2
 have zl:zs.length<sizeLine:=by
  rw[← hzs,(jdd _).length_eq,List.length_map]
  exact Nat.lt_trans ho.len (by decide)
 have w4:jfz (m2 gIx (lF (fVar 4)) (lF (fC (.int 1)))) (lF (fL jeb (jae (fC (.int 0)) (jae (fC (.int 0)) fNil)))) δ Ω3=some (.ok .non,Ω4) :=
  jrl (n:=Ω.length+1) (u_2 (u_l rfl) (u_l rfl) (DL.atI_get (j:=1) rfl)) g3 (u_l rfl) zl
 refine⟨Ω4,?_,?_⟩
 ·unfold jb0
  rw[jux]
  show (MS.b (jdf [some (.obj L),some (.obj M),some (.obj (M+1)),some (.obj (M+2)),none]) outE) Ω=_
  have h:jdf [some (.obj L),some (.obj M),some (.obj (M+1)),some (.obj (M+2)),none] Ω=some (.ok (.rt (.bl true)),Ω4):=by
   unfold jdf
   rw[ja5 (show eSet 4 _ _ Ω=some (.ok (.nx δ),Ω2) from jf4 w0),jdu w1,jdu w2,ja5 (jes w3),ja5 (jes w4)]
   exact u_l rfl
  rw[v_b h];rfl
 ·refine⟨?_,fun i hi=>?_⟩
  ·show Ω.length≤((Ω2.set _ _).set _ _).length
   rw[List.length_set,List.length_set];omega
  ·show ((Ω2.set _ _).set _ _)[i]? = _
   rw[List.getElem?_set_ne (by omega),List.getElem?_set_ne (by omega)]
   exact f2.e i hi
end
end
noncomputable section
theorem jrf:∀ (l m:List (List Int)),l.Nodup→(∀ x∈l,x∈m)→l.length≤m.length
 | [],_,_,_=>Nat.zero_le _
 | a::l,m,nd,h=>by
  have ha:=h a List.mem_cons_self
  obtain⟨n1,n2⟩:=List.nodup_cons.mp nd
  have ih:=jrf l (m.erase a) n2 fun x hx=>(List.mem_erase_of_ne (fun z=>n1 (by rw[← z];exact hx))).mpr (h x (List.mem_cons_of_mem _ hx))
  rw[List.length_erase_of_mem ha] at ih
  have:=List.length_pos_of_mem ha
  rw[List.length_cons];omega
structure Of(rs hd tk:List Row):Prop where
 hi:∀ r∈hd,r∈rs
 ti:∀ r∈tk,r∈rs
 nd:(hd.map keyR).Nodup
theorem Of.flush{rs:List Row}{c hd tk c' hd' tk'}(F:Flush c hd tk c' hd' tk'):Of rs hd tk→Of rs hd' tk':=by
 induction F with
 | done _=>exact id
 | step r h1 _ _ _ ih =>
  intro O
  refine ih ⟨fun q hq=>O.hi q (List.mem_filter.mp hq).1,fun q hq=>?_,O.nd.sublist ((List.filter_sublist).map keyR)⟩
  rcases List.mem_append.mp hq with hq|hq
  ·exact O.ti q hq
  ·rw[List.mem_singleton.mp hq];exact O.hi r h1
theorem Of.took{rs:List Row}{c hd tk r w c' hd' tk'}(T:Took c hd tk r w c' hd' tk')(hr:r∈rs)(O:Of rs hd tk):Of rs hd' tk':=by
 cases T with
 | known _=>exact O
 | old _ _ _ _ _=>exact O
 | new _ _ h2 =>
  refine⟨fun q hq=>?_,O.ti,?_⟩
  ·rcases List.mem_append.mp hq with hq|hq
   ·exact O.hi q hq
   ·rw[List.mem_singleton.mp hq];exact hr
  ·rw[List.map_append]
   refine List.nodup_append.mpr ⟨O.nd,by simp,fun a ha b hb z=>?_⟩
   obtain⟨q,hq,rfl⟩:=List.mem_map.mp ha
   have hb':b=keyR r:=by simpa using hb
   exact h2 q hq (z.trans hb')
 | taken _ F =>
  refine Of.flush F ⟨O.hi,fun q hq=>?_,O.nd⟩
  rcases List.mem_append.mp hq with hq|hq
  ·exact O.ti q hq
  ·rw[List.mem_singleton.mp hq];exact hr
theorem Of.ok{rs hd tk:List Row}(O:Of rs hd tk)(hl:rs.length≤63)(hn:∀ r∈rs,0≤r.n∧r.n<1000):HdOk hd:=by
 refine⟨O.nd,?_,fun r hr=>hn r (O.hi r hr)⟩
 have:=jrf (hd.map keyR) (rs.map keyR) O.nd fun x hx=>by
  obtain⟨q,hq,rfl⟩:=List.mem_map.mp hx
  exact List.mem_map.mpr ⟨q,O.hi q hq,rfl⟩
 rw[List.length_map,List.length_map] at this
 omega
inductive LW(H L:Nat)(rs:List Row)(Ω:Sto)(B:Nat):Prop
 | mk (c:List Int) (hd tk:List Row) (A:LogAt H B Ω L c hd tk) (A0:LogAt H 0 Ω (L+4) (List.replicate H 0) [] []) (S:S3 H Ω (L+8) c hd tk) (O:Of rs hd tk)
theorem jvw{rs:List Row}{p:Nat}{r:Row}(h:rs[p]? = some r):gIx (ja7 rs) (.int (p:Int))=some (rowD r):=by
 refine DL.atI_get (j:=p) ?_
 rw[List.getElem?_map,h];rfl
theorem jxm{t:DSt→MS Bool}{g:DSt→MS Out}{δ:DSt}{Ω:Sto}{Ω1:Sto}(h:t δ Ω=some (.ok false,Ω1)):eIf t g eNx δ Ω=some (.ok (.nx δ),Ω1):=by rw[u_if h,if_neg (by decide)];rfl
noncomputable abbrev st(ns:List Int)(H:Nat)(rs:List Row)(ps:List Nat)(L:Nat)(x9:Option D):DSt:=[some (scr ns),some (.int (H:Int)),some (ja7 rs),some (nl ps),some (.obj L),some (.obj (L+4)),some (.obj (L+8)),some (.obj (L+9)),some (.obj (L+10)),x9]
section
variable {ns:List Int}{H:Nat}{rs:List Row}{ps:List Nat}{L:Nat}(hR:∀ r∈rs,Ok H r)(hl:rs.length≤63)(hn:∀ r∈rs,0≤r.n∧r.n<1000)(hH:H≤900)
include hR hl hn hH
theorem jsn{Ω:Sto}{B p:Nat}{r:Row}(W:LW H L rs Ω B)(hp:rs[p]? = some r)(hB:B+1≤10000):∃ Ω',jmj (st ns H rs ps L (some (.int (p:Int)))) Ω=some (.ok (.nx (st ns H rs ps L (some (.int (p:Int))))),Ω')∧LW H L rs Ω' (B+1):=by
 obtain⟨c,hd,tk,A,A0,S,O⟩:=W
 have hr:r∈rs:=List.mem_of_getElem? hp
 have ho:=O.ok hl hn
 obtain⟨w,Ω1,c',hd',tk',e1,A1,fr1,T⟩:=jxg A ho.keys (hR r hr) hB
 have S1:S3 H Ω1 (L+8) c hd tk:=⟨(fr1.e (L+8) (by omega)).trans S.r,(fr1.e (L+8+1) (by omega)).trans S.t,(fr1.e (L+8+2) (by omega)).trans S.d,S.l,S.k,S.b⟩
 have A01:LogAt H 0 Ω1 (L+4) (List.replicate H 0) [] []:=fr1.log (.inr (by omega)) A0
 have hb:=A.b
 obtain⟨Ω2,e2,S2,fr2⟩:=jx8 hH T S1 ho (hR r hr) (by omega)
 have A2:LogAt H (B+1) Ω2 L c' hd' tk':=⟨(fr2.e L (by omega)).trans A1.o,(fr2.e (L+1) (by omega)).trans A1.t,A1.b,(fr2.e (L+2) (by omega)).trans A1.r,(fr2.e (L+3) (by omega)).trans A1.d,A1.l,A1.k,A1.s⟩
 have A02:LogAt H 0 Ω2 (L+4) (List.replicate H 0) [] []:=⟨(fr2.e (L+4) (by omega)).trans A01.o,(fr2.e (L+4+1) (by omega)).trans A01.t,A01.b,(fr2.e (L+4+2) (by omega)).trans A01.r,(fr2.e (L+4+3) (by omega)).trans A01.d,A01.l,A01.k,A01.s⟩
 have O2:=O.took T hr
 obtain⟨Ω3,e3,fr3⟩:=jjc A2 S2 (O2.ok hl hn) fun q hq=>hR q (O2.ti q hq)
 refine⟨Ω3,?_,c',hd',tk',fr3.log A2,fr3.log A02,fr3.s3 S2,O2⟩
 have ix:f2 gIx (fVar 2) (fVar 9) (st ns H rs ps L (some (.int (p:Int))))=some (.ok (rowD r)):=jns rfl rfl (jvw hp)
 have ar:jae (f2 gIx (fVar 2) (fVar 9)) fNil (st ns H rs ps L (some (.int (p:Int))))=some (.ok [rowD r]):=by
  rw[jpc,ix,M.b_ok];rfl
 have t1:mB (m2 gNe (jdh "Log" "take" jdb (lF (fVar 4)) (lF (jae (f2 gIx (fVar 2) (fVar 9)) fNil))) (jfa jd0 (jar (lF (fVar 6)) (jar (lF (fVar 7)) (jar (lF (fVar 8)) (lF (jae (f2 gIx (fVar 2) (fVar 9)) fNil))))))) (st ns H rs ps L (some (.int (p:Int)))) Ω=some (.ok false,Ω2) :=
  u_B (u_2 (by rw[jet (u_l rfl) A.o (jhj L (by decide) (by decide) (by decide)) (u_l ar)];exact e1) (by rw[jf9 (jav (u_l rfl) (jav (u_l rfl) (jav (u_l rfl) (u_l ar))))];exact e2) (jl4 rfl (Nat.zero_le _)))
 unfold jmj
 rw[jdu t1]
 exact jxm (jrn (b:=true) (jmh (by rw[jf9 (jav (u_l rfl) (jav (u_l rfl) (jav (u_l rfl) (jav (u_l rfl) (u_l rfl)))))];exact e3)))
theorem jmy:∀ (qs:List Nat) (Ω:Sto) (B:Nat) (x9:Option D),(∀ q∈qs,q<rs.length)→B+qs.length≤10000→LW H L rs Ω B →
  ∃ Ω' B' y9,forE jmj (DL.gName 9) (qs.map fun q:Nat=>D.int (q:Int)) (st ns H rs ps L x9) Ω=some (.ok (.nx (st ns H rs ps L y9)),Ω')∧LW H L rs Ω' B'
 | [],Ω,B,x9,_,_,W=>⟨Ω,B,x9,rfl,W⟩
 | p::qs,Ω,B,x9,hq,hB,W=>by
  rw[List.length_cons] at hB
  have hp:=hq p List.mem_cons_self
  obtain⟨Ω1,e1,W1⟩:=jsn (ns:=ns) (ps:=ps) hR hl hn hH W (List.getElem?_eq_getElem hp) (by omega)
  obtain⟨Ω',B',y9,e',W'⟩:=jmy qs Ω1 (B+1) (some (.int (p:Int))) (fun q h=>hq q (List.mem_cons_of_mem _ h)) (by omega) W1
  refine⟨Ω',B',y9,?_,W'⟩
  rw[List.map_cons,jlo (δ1:=st ns H rs ps L (some (.int (p:Int)))) rfl (.inl e1)]
  exact e'
end
theorem juz{δ:DSt}{Ω:Sto}{H:Nat}{fb:DSt→MS D}(hH:H≤1000)(h:fb δ Ω=some (.ok (.int (H:Int)),Ω)):jh4 (lF (jae (fC (.int 0)) fNil)) fb δ Ω=some (.ok (.obj Ω.length),Ω++[.lst (List.replicate H (.int 0))]):=by
 unfold jh4
 rw[v_b (show lF (jae (fC (.int 0)) fNil) δ Ω=some (.ok [.int 0],Ω) from u_l rfl),if_pos (show [D.int 0].length≤sizeLine by decide),v_b h]
 dsimp only
 rw[if_pos ⟨by omega,by omega,by rw[Int.toNat_natCast];simp only[List.length_singleton];exact Nat.le_trans (show 1*H≤1000 by omega) (by decide)⟩,Int.toNat_natCast,jht]
 unfold jfp
 rw[if_pos (by rw[List.length_replicate];exact Nat.le_trans hH (by decide))]
theorem juy{δ:DSt}{Ω:Sto}:jkm (lF fNil) δ Ω=some (.ok (.obj Ω.length),Ω++[.lst []]):=by
 unfold jkm
 rw[v_b (show lF fNil δ Ω=some (.ok [],Ω) from u_l rfl)]
 exact if_pos (Nat.zero_le _)
theorem juu{H:Nat}(Ω:Sto):S3 H (Ω++[.lst (List.replicate H (.int 0)),.lst [],.dct []]) Ω.length (List.replicate H 0) [] [] :=
 ⟨(jd7 Ω _ 0).trans (by rw[List.map_replicate];rfl),jd7 Ω _ 1,jd7 Ω _ 2,List.length_replicate,(fun _ h=>nomatch h),Nat.zero_le _⟩
theorem jyo:HdOk []:=⟨List.nodup_nil,by decide,fun _ h=>(nomatch h)⟩
theorem jxx(ps:List Nat)(k:Nat):cutD (nl ps) none (some (k:Int))=some (nl (ps.take (min k ps.length))):=by
 have e:HT.sIx (ps.map fun q:Nat=>D.int (q:Int)).length (ps.map fun q:Nat=>D.int (q:Int)).length (some (k:Int))=min k ps.length:=by
  rw[HT.sIx_nat,List.length_map]
 have e0:HT.sIx (ps.map fun q:Nat=>D.int (q:Int)).length 0 none=0:=rfl
 show some (D.lst (cutL _ none (some (k:Int))))=_
 unfold cutL
 rw[e,e0,List.drop_zero,Nat.sub_zero,← List.map_take]
theorem law_true:∀ ns:List Int,ns.length≤63→∃ Ω,jp9 [.lst (ns.map .int)] []=some (.ok (.bl true),Ω):=by
 intro ns hl
 have c0:=jnk (ns:=ns) (k:=0) (by decide)
 have c1:=jnk (ns:=ns) (k:=1) (by decide)
 have m0:=Int.emod_nonneg (jgd ns 0) (show (3:Int)≠0 by decide)
 have m1:=Int.emod_lt_of_pos (jgd ns 0) (show (0:Int)<3 by decide)
 obtain⟨H,hH⟩:=Int.eq_ofNat_of_zero_le (show 0≤2+jgd ns 0 % 3 by omega)
 have h2:2≤H:=by omega
 have h4:H≤4:=by omega
 obtain⟨Ω1,rs,hk,hR,lr,er⟩:=jw3 (ns:=ns) [] h2 h4 hl
 obtain⟨ps0,_,pb0,pl0,eo⟩:=js8 (ns:=ns) (n:=rs.length) lr
 have hn:∀ r∈rs,0≤r.n∧r.n<1000:=fun r hr=>by
  have a1:=(jut rs (List.replicate H 0) List.length_replicate hR hk r hr).1
  rw[rep0] at a1
  have a2:=jus rs (List.replicate H 0) 0 List.length_replicate hR hk (fun k=>by rw[rep0];exact Int.le_refl _) r hr
  omega
 have half:∃ ps:List Nat,(∀ q∈ps,q<rs.length)∧ps.length≤126∧gIf (t2 gEq (f2 gMod (jeh jau (jae (fVar 0) (jae (fC (.int 1)) fNil))) (fC (.int 3))) (fC (.int 1))) (gSet 3 (fSl (fVar 3) jf1 (jec (f2 jcm (fL kLen (jae (fVar 3) fNil)) (fC (.int 2)))))) gNx [some (scr ns),some (.int (H:Int)),some (ja7 rs),some (nl ps0),none,none,none,none,none,none]=some (.ok (.nx [some (scr ns),some (.int (H:Int)),some (ja7 rs),some (nl ps),none,none,none,none,none,none])):=by
  have tt:t2 gEq (f2 gMod (jeh jau (jae (fVar 0) (jae (fC (.int 1)) fNil))) (fC (.int 3))) (fC (.int 1)) [some (scr ns),some (.int (H:Int)),some (ja7 rs),some (nl ps0),none,none,none,none,none,none]=some (.ok (jgd ns 1 % 3 == 1)):=by
   simp only[stp,c1,jbp (i:=jgd ns 1) (j:=3) (by decide)]
   rfl
  by_cases hc:jgd ns 1 % 3=1
  ·refine⟨ps0.take (min (ps0.length / 2) ps0.length),fun q hq=>pb0 q (List.mem_of_mem_take hq),by rw[List.length_take];omega,?_⟩
   rw[show (jgd ns 1 % 3 == 1)=true from by simpa using hc] at tt
   have fd:f2 jcm (fL kLen (jae (fVar 3) fNil)) (fC (.int 2)) [some (scr ns),some (.int (H:Int)),some (ja7 rs),some (nl ps0),none,none,none,none,none,none]=some (.ok (.int ((ps0.length / 2:Nat):Int))):=by
    have:=jns (g:=jcm) (fa:=fL kLen (jae (fVar 3) fNil)) (fb:=fC (.int 2)) (δ:=[some (scr ns),some (.int (H:Int)),some (ja7 rs),some (nl ps0),none,none,none,none,none,none]) (x:=.int ((ps0.map fun q:Nat=>D.int (q:Int)).length:Int)) (y:=.int 2) rfl rfl (jc4 (by decide) (by decide))
    rw[this,List.length_map];rfl
   have sl:fSl (fVar 3) jf1 (jec (f2 jcm (fL kLen (jae (fVar 3) fNil)) (fC (.int 2)))) [some (scr ns),some (.int (H:Int)),some (ja7 rs),some (nl ps0),none,none,none,none,none,none]=some (.ok (nl (ps0.take (min (ps0.length / 2) ps0.length)))):=by
    unfold fSl jec jf1
    rw[show fVar 3 [some (scr ns),some (.int (H:Int)),some (ja7 rs),some (nl ps0),none,none,none,none,none,none]=some (.ok (nl ps0)) from rfl,M.b_ok,show (M.p none:M (Option Int))=some (.ok none) from rfl,M.b_ok,fd,M.b_ok]
    show M.b (some (.ok (some ((ps0.length / 2:Nat):Int)))) _=_
    rw[M.b_ok,jxx];rfl
   show (M.b (t2 _ _ _ _) _)=_
   rw[tt,M.b_ok,if_pos rfl]
   exact jrp 3 sl
  ·refine⟨ps0,pb0,pl0,?_⟩
   rw[show (jgd ns 1 % 3 == 1)=false from by simpa using hc] at tt
   show (M.b (t2 _ _ _ _) _)=_
   rw[tt,M.b_ok,if_neg (by decide)]
   rfl
 obtain⟨ps,pb,pl,eh⟩:=half
 let L:=Ω1.length
 let Ω2:=Ω1++[SO.ins "Log" (logF L),.lst [],.lst (List.replicate H (.int 0)),.dct []]
 have l2:Ω2.length=L+4:=by show (Ω1++_).length=_;rw[List.length_append];rfl
 let Ω3:=Ω2++[SO.ins "Log" (logF (L+4)),.lst [],.lst (List.replicate H (.int 0)),.dct []]
 have l3:Ω3.length=L+8:=by show (Ω2++_).length=_;rw[List.length_append,l2];rfl
 let Ω4:=Ω3++[SO.lst (List.replicate H (.int 0))]
 have l4:Ω4.length=L+9:=by show (Ω3++_).length=_;rw[List.length_append,l3];rfl
 let Ω5:=Ω4++[SO.lst []]
 have l5:Ω5.length=L+10:=by show (Ω4++_).length=_;rw[List.length_append,l4];rfl
 let Ω6:=Ω5++[SO.dct []]
 have e6:Ω6=Ω3++[.lst (List.replicate H (.int 0)),.lst [],.dct []]:=by
  show ((Ω3++_)++_)++_=_
  rw[List.append_assoc,List.append_assoc];rfl
 have W0:LW H L rs Ω6 0:=by
  have a1:LogAt H 0 Ω3 L (List.replicate H 0) [] []:=(jqk (H:=H) Ω1 (by omega)).app _
  have a2:LogAt H 0 Ω3 (L+4) (List.replicate H 0) [] []:=by
   have:=jqk (H:=H) Ω2 (by omega)
   rw[l2] at this
   exact this
  have s3:=juu (H:=H) Ω3
  rw[l3] at s3
  rw[e6]
  exact⟨List.replicate H 0,[],[],a1.app _,a2.app _,s3,⟨fun _ h=>(nomatch h),fun _ h=>(nomatch h),List.nodup_nil⟩⟩
 obtain⟨Ω7,B',y9,e7,W7⟩:=jmy (ns:=ns) (ps:=ps) (L:=L) hR lr hn (by omega) ps Ω6 0 none pb (by omega) W0
 obtain⟨c,hd,tk,A,A0,S,O⟩:=W7
 obtain⟨Ω8,e8,f8⟩:=jjc A S (O.ok lr hn) fun q hq=>hR q (O.ti q hq)
 have A8:=f8.log A0
 let Ω9:=Ω8++[SO.lst (List.replicate H (.int 0))]
 have l9:Ω9.length=Ω8.length+1:=by show (Ω8++_).length=_;rw[List.length_append];rfl
 let Ω10:=Ω9++[SO.lst []]
 have l10:Ω10.length=Ω8.length+2:=by show (Ω9++_).length=_;rw[List.length_append,l9];rfl
 let Ω11:=Ω10++[SO.dct []]
 have e11:Ω11=Ω8++[.lst (List.replicate H (.int 0)),.lst [],.dct []]:=by
  show ((Ω8++_)++_)++_=_
  rw[List.append_assoc,List.append_assoc];rfl
 obtain⟨Ω12,e12,_⟩:=jjc (L:=L+4) (M:=Ω8.length) (Ω:=Ω11) (hd:=[]) (tk:=[]) (c:=List.replicate H 0) (by rw[e11];exact A8.app _) (by rw[e11];exact juu Ω8) jyo (fun _ h=>(nomatch h))
 refine⟨Ω12,?_⟩
 unfold jp9
 rw[jip]
 show (MS.b (jpj [some (scr ns),none,none,none,none,none,none,none,none,none]) outE) []=_
 have h:jpj [some (scr ns),none,none,none,none,none,none,none,none,none] []=some (.ok (.rt (.bl true)),Ω12):=by
  unfold jpj
  rw[ja5 (u_l (show gSet 1 _ _=some (.ok (.nx [some (scr ns),some (.int (H:Int)),none,none,none,none,none,none,none,none])) from by simp only[stp,c0,jbp (i:=jgd ns 0) (j:=3) (by decide),hH];rfl))]
  rw[ja5 (show eSet 2 _ _ []=some (.ok (.nx [some (scr ns),some (.int (H:Int)),some (ja7 rs),none,none,none,none,none,none,none]),Ω1) from jf4 (by
   rw[jf9 (show lF (jae (fVar 0) (jae (fVar 1) fNil)) _ []=some (.ok [scr ns,.int (H:Int)],[]) from u_l rfl)];exact er))]
  rw[ja5 (u_l (show gSet 3 _ _=some (.ok (.nx [some (scr ns),some (.int (H:Int)),some (ja7 rs),some (nl ps0),none,none,none,none,none,none])) from by
   rw[jrp 3 (d:=nl ps0) ?_]
   ·rfl
   ·rw[jt8,show jae (fVar 0) (jae (fL kLen (jae (fVar 2) fNil)) fNil) [some (scr ns),some (.int (H:Int)),some (ja7 rs),none,none,none,none,none,none,none]=some (.ok [scr ns,.int ((rs.map rowD).length:Int)]) from rfl,M.b_ok,List.length_map]
    exact eo))]
  rw[ja5 (u_l eh)]
  have k1:=jmz (H:=H) (δ:=[some (scr ns),some (.int (H:Int)),some (ja7 rs),some (nl ps),none,none,none,none,none,none]) (fl:=lF (jae (fVar 1) fNil)) Ω1 (by omega) (u_l rfl)
  rw[ja5 (show eSet 4 _ _ Ω1=some (.ok (.nx [some (scr ns),some (.int (H:Int)),some (ja7 rs),some (nl ps),some (.obj L),none,none,none,none,none]),Ω2) from jf4 k1)]
  have k2:=jmz (H:=H) (δ:=[some (scr ns),some (.int (H:Int)),some (ja7 rs),some (nl ps),some (.obj L),none,none,none,none,none]) (fl:=lF (jae (fVar 1) fNil)) Ω2 (by omega) (u_l rfl)
  rw[l2] at k2
  rw[ja5 (show eSet 5 _ _ Ω2=some (.ok (.nx [some (scr ns),some (.int (H:Int)),some (ja7 rs),some (nl ps),some (.obj L),some (.obj (L+4)),none,none,none,none]),Ω3) from jf4 k2)]
  have k3:=juz (H:=H) (Ω:=Ω3) (fb:=lF (fVar 1)) (δ:=[some (scr ns),some (.int (H:Int)),some (ja7 rs),some (nl ps),some (.obj L),some (.obj (L+4)),none,none,none,none]) (by omega) (u_l rfl)
  rw[l3] at k3
  rw[ja5 (show eSet 6 _ _ Ω3=some (.ok (.nx [some (scr ns),some (.int (H:Int)),some (ja7 rs),some (nl ps),some (.obj L),some (.obj (L+4)),some (.obj (L+8)),none,none,none]),Ω4) from jf4 k3)]
  have k4:=juy (Ω:=Ω4) (δ:=[some (scr ns),some (.int (H:Int)),some (ja7 rs),some (nl ps),some (.obj L),some (.obj (L+4)),some (.obj (L+8)),none,none,none])
  rw[l4] at k4
  rw[ja5 (show eSet 7 _ _ Ω4=some (.ok (.nx [some (scr ns),some (.int (H:Int)),some (ja7 rs),some (nl ps),some (.obj L),some (.obj (L+4)),some (.obj (L+8)),some (.obj (L+9)),none,none]),Ω5) from jf4 k4)]
  rw[ja5 (show eSet 8 _ _ Ω5=some (.ok (.nx (st ns H rs ps L none)),Ω6) from jf4 (show jkl _ Ω5=some (.ok (.obj (L+10)),Ω6) from by rw[← l5];rfl))]
  rw[ja5 (show eFor _ _ _ _ Ω6=some (.ok (.nx (st ns H rs ps L y9)),Ω7) from by
   rw[jw4,v_b (show lF (jnv (fVar 3)) (st ns H rs ps L none) Ω6=some (.ok (ps.map fun q:Nat=>D.int (q:Int)),Ω6) from u_l rfl)]
   exact e7)]
  refine jol ?_
  show (MS.b _ _) Ω7=_
  rw[v_b (show jfa jb0 _ (st ns H rs ps L y9) Ω7=some (.ok (.bl true),Ω8) from by rw[jf9 (jav (u_l rfl) (jav (u_l rfl) (jav (u_l rfl) (jav (u_l rfl) (u_l rfl)))))];exact e8)]
  dsimp only
  have q1:=juz (H:=H) (Ω:=Ω8) (fb:=lF (fVar 1)) (δ:=st ns H rs ps L y9) (by omega) (u_l rfl)
  have q2:=juy (Ω:=Ω9) (δ:=st ns H rs ps L y9)
  rw[l9] at q2
  have q3:jkl (st ns H rs ps L y9) Ω10=some (.ok (.obj (Ω8.length+2)),Ω11):=by rw[← l10];rfl
  rw[jf9 (jav (u_l rfl) (jav q1 (jav q2 (jav q3 (u_l rfl)))))]
  exact e12
 rw[v_b h];rfl
end
end MyLaw
set_option maxRecDepth 100000 in
set_option maxHeartbeats 0 in
theorem PySem.Challenge.cw_apartbook_k34_rows_taken_holds : PySem.Challenge.rw_apartbook_k34_rows_taken.Holds := by
 w_on;o_law;z_head;(case hw=>w_witness2)
 k_fill
 refine MyLaw.walkZ (l:=PySem.Challenge.rw_apartbook_k34_rows_taken) (fun P=>rfl) rfl rfl ?F MyLaw.law_true
 case F =>
  intro w mg fa h KX G hmg
  refine' ⟨?T,hmg⟩
  case T =>
   refine' MyLaw.txt_mk KX G ?ca_Log ?cp_Log ?cq_Log ?cr_Log ?cs_Log ?cf0_Log ?cf1_Log ?cf2_Log ?a0 ?b0 ?i0 ?j0 ?l0 ?c0 ?k0 ?a1 ?l1 ?c1 ?k1 ?a2 ?l2 ?c2 ?k2 ?a3 ?l3 ?c3 ?k3 ?a4 ?l4 ?c4 ?k4 ?a5 ?b5 ?l5 ?c5 ?k5 ?a6 ?b6 ?l6 ?c6 ?k6 ?a7 ?b7 ?l7 ?c7 ?k7 ?a8 ?b8 ?l8 ?c8 ?k8 ?a9 ?b9 ?l9 ?c9 ?k9 ?a10 ?b10 ?l10 ?c10 ?k10 ?a11 ?b11 ?l11 ?c11 ?k11 ?a12 ?b12 ?l12 ?c12 ?k12 ?a13 ?l13 ?c13 ?k13 ?a14 ?l14 ?c14 ?k14 ?a15 ?l15 ?c15 ?k15 ?a16 ?l16 ?c16 ?k16 ?a17 ?l17 ?c17 ?k17 ?z0 ?z1 ?z2 ?z3 ?z4 ?z5 ?z6 ?z7 ?z8 ?z9
   (case ca_Log=>k_is);(case cp_Log=>k_is);(case cq_Log=>k_is);(case cr_Log=>k_is);(case cs_Log=>k_is);(case cf0_Log=>k_is);(case cf1_Log=>k_is);(case cf2_Log=>k_is)
   (case a0=>k_is);(case b0=>k_is);(case i0=>k_is);(case j0=>k_is);(case l0=>k_is);(case c0=>k_is);(case k0=>k_is);(case a1=>k_is)
   (case l1=>k_is);(case c1=>k_is);(case k1=>k_is);(case a2=>k_is);(case l2=>k_is);(case c2=>k_is);(case k2=>k_is);(case a3=>k_is)
   (case l3=>k_is);(case c3=>k_is);(case k3=>k_is);(case a4=>k_is);(case l4=>k_is);(case c4=>k_is);(case k4=>k_is);(case a5=>k_is)
   (case b5=>k_is);(case l5=>k_is);(case c5=>k_is);(case k5=>k_is);(case a6=>k_is);(case b6=>k_is);(case l6=>k_is);(case c6=>k_is)
   (case k6=>k_is);(case a7=>k_is);(case b7=>k_is);(case l7=>k_is);(case c7=>k_is);(case k7=>k_is);(case a8=>k_is);(case b8=>k_is)
   (case l8=>k_is);(case c8=>k_is);(case k8=>k_is);(case a9=>k_is);(case b9=>k_is);(case l9=>k_is);(case c9=>k_is);(case k9=>k_is)
   (case a10=>k_is);(case b10=>k_is);(case l10=>k_is);(case c10=>k_is);(case k10=>k_is);(case a11=>k_is);(case b11=>k_is);(case l11=>k_is)
   (case c11=>k_is);(case k11=>k_is);(case a12=>k_is);(case b12=>k_is);(case l12=>k_is);(case c12=>k_is);(case k12=>k_is);(case a13=>k_is)
   (case l13=>k_is);(case c13=>k_is);(case k13=>k_is);(case a14=>k_is);(case l14=>k_is);(case c14=>k_is);(case k14=>k_is);(case a15=>k_is)
   (case l15=>k_is);(case c15=>k_is);(case k15=>k_is);(case a16=>k_is);(case l16=>k_is);(case c16=>k_is);(case k16=>k_is);(case a17=>k_is)
   (case l17=>k_is);(case c17=>k_is);(case k17=>k_is);(case z0=>k_is);(case z1=>k_is);(case z2=>k_is);(case z3=>k_is);(case z4=>k_is)
   (case z5=>k_is);(case z6=>k_is);(case z7=>k_is);(case z8=>k_is);(case z9=>k_is)

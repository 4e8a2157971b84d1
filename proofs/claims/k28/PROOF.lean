import PyProof.Rows.All
import Wide.All
import OpenK.AllK
import Wide.FinOn
import Lean
import PyProof.EqAt
import PyProof.EqKinds
import PyProof.TupleCall
import PySem.Challenge.RW_apartbook_k28_whole_counted_rules_carry
set_option Elab.async false
set_option linter.all false
set_option maxRecDepth 100000
noncomputable def PySem.W.Fast.tw13153412178102711504:=PySem.Challenge.pw_apartbook_k28_whole_counted_rules_carry
theorem PySem.W.Fast.te13153412178102711504:PySem.Challenge.pw_apartbook_k28_whole_counted_rules_carry=PySem.W.Fast.tw13153412178102711504:=rfl
theorem PySem.W.Fast.te10408911760288338291:True:=trivial
theorem PySem.W.Fast.te17432387410091115591:True:=trivial
set_option compiler.extract_closed false
noncomputable section
abbrev qc:=PySem.Str->Option PySem.Value
abbrev qd:=List (PySem.Addr×PySem.Obj)
abbrev qe:=PySem.Value->PySem.Shared->Prop
abbrev qf:=PySem.Addr->Bool
abbrev qg:=Array (Option PySem.Value)
abbrev qh:=List (PySem.Str×Nat)
abbrev zax.{u}:=@List.getElem?_eq_getElem.{u}
abbrev zay:=@PySem.wpAny_bind
abbrev zaz:=@PySem.Heap.get?_push_of_some
abbrev zav.{u,v}:=@List.length_map.{u,v}
abbrev zaw.{u}:=@List.mem_cons_of_mem.{u}
abbrev zaa.{u}:=@List.mem_cons_self.{u}
abbrev zab:=@PySem.wpAny_pure
abbrev zac:=@Nat.le_refl
abbrev zbx.{u}:=@List.getD_eq_getElem?_getD.{u}
abbrev zby.{u}:=@List.size_toArray.{u}
abbrev zbz.{u}:=@Option.some.inj.{u}
abbrev zbv:=@PySem.Heap.get?_push_size
abbrev zbw:=@PySem.Heap.lt_size
abbrev zba.{u}:=@List.getElem?_set_ne.{u}
abbrev zbb.{u,v}:=@List.getElem?_map.{u,v}
abbrev zbc.{u}:=@List.getElem?_eq_some_iff.{u}
abbrev zcx.{u}:=@List.contains_iff_mem.{u}
abbrev zcy:=@Nat.lt_of_lt_of_le
abbrev zcz.{u}:=@List.mem_append_right.{u}
abbrev zcv.{u}:=@List.getElem?_set_self.{u}
abbrev zcw:=@Int.mul_pos
abbrev zca.{u,v}:=@List.mem_map.{u,v}
abbrev zcb:=@Nat.ne_of_lt
abbrev zcc:=@Int.le_of_lt
abbrev zdx.{u}:=@List.mem_filter.{u}
abbrev zdy.{u}:=@List.mem_append_left.{u}
abbrev zdz.{u,v}:=@List.of_mem_zip.{u,v}
abbrev zdv.{u}:=@List.mem_of_getElem?.{u}
abbrev zdw:=@Int.emod_nonneg
abbrev zda:=@Int.emod_lt_of_pos
abbrev zdb.{u}:=@List.length_append.{u}
abbrev zdc:=@List.mem_range
abbrev zex.{u}:=@List.mem_singleton.{u}
abbrev zey.{u}:=@List.mem_append.{u}
abbrev zez:=@Nat.le_trans
theorem zau0(h:True:=by first|exact .inl rfl|exact .inr rfl|assumption):True:=h
theorem zau1(h:True:=by decide):True:=h
theorem zau2(h:True:=by rfl):True:=h
theorem zau3(h:True:=by intro _;rfl):True:=h
theorem zau4(h:True:=by first|exact Or.inl rfl|exact Or.inr (Or.inl rfl)|exact Or.inr (Or.inr rfl)):True:=h
theorem zau5(h:True:=by exact fun _ _=>rfl):True:=h
theorem zau6(h:True:=by exact fun _=>rfl):True:=h
theorem zau7(h:True:=by first|exact Or.inl rfl|exact Or.inr rfl):True:=h
theorem zau8(h:True:=by exact⟨rfl,rfl,rfl,rfl⟩):True:=h
open PySem PySem.Spec namespace L2
open PyProof.Rows
abbrev Key:=Sum Int Str
noncomputable def jrv:Key->Value->Bool
 | .inl k,v=>Value.isInt k v
 | .inr x,v=>Value.isStrOf x v
noncomputable def keyH(w:World):Key->Int
 | .inl k=>hashInt k
 | .inr x=>hashStr w x
theorem jbs:∀ {k:Key} {v:Value},jrv k v=true->(∃ i t,k=Sum.inl i/\v=Value.int i t)\/(∃ x t,k=Sum.inr x/\v=Value.str x t)
 | .inl i,v,h=>by
  obtain⟨t,e⟩:=Value.isInt_shape (k:=i) (v:=v) h;exact .inl ⟨i,t,rfl,e⟩
 | .inr x,v,h=>by
  obtain⟨t,e⟩:=Value.isStrOf_shape (x:=x) (v:=v) h;exact .inr ⟨x,t,rfl,e⟩
theorem jtt(i:Int)(t:Tok):jrv (.inl i) (.int i t)=true:=by simp[jrv,Value.isInt]
theorem jtu(x:Str)(t:Tok):jrv (.inr x) (.str x t)=true:=by simp[jrv,Value.isStrOf]
theorem jCf(a b:Int):decide ((Sum.inl a:Key)=Sum.inl b)=(a == b):=by
 by_cases e:a=b
 ·subst e;simp
 ·have h:¬ (Sum.inl a:Key)=Sum.inl b:=fun q=>e (Sum.inl.inj q)
  rw[decide_eq_false h];exact (beq_eq_false_iff_ne.mpr e).symm
theorem jCi(a b:Str):decide ((Sum.inr a:Key)=Sum.inr b)=decide (a=b):=by
 by_cases e:a=b
 ·subst e;simp
 ·have h:¬ (Sum.inr a:Key)=Sum.inr b:=fun q=>e (Sum.inr.inj q)
  rw[decide_eq_false h,decide_eq_false e]
theorem jCg(a:Int)(b:Str):decide ((Sum.inl a:Key)=Sum.inr b)=false:=decide_eq_false (fun q=>nomatch q)
theorem jCh(a:Str)(b:Int):decide ((Sum.inr a:Key)=Sum.inl b)=false:=decide_eq_false (fun q=>nomatch q)
def jcw(prog:Program)(w:World):PySem.KeyKind prog w Key where
 is:=jrv
 hash:=keyH w
 inj:=fun v a b ha hb=>by
  rcases jbs ha with ⟨i,t,rfl,rfl⟩|⟨x,t,rfl,rfl⟩
  ·rcases jbs hb with ⟨j,u,rfl,e⟩|⟨y,u,rfl,e⟩
   ·injection e with e1 _;rw[e1]
   ·exact nomatch e
  ·rcases jbs hb with ⟨j,u,rfl,e⟩|⟨y,u,rfl,e⟩
   ·exact nomatch e
   ·injection e with e1 _;rw[e1]
 byValue:=fun k v h=>by
  rcases jbs h with ⟨i,t,rfl,rfl⟩|⟨x,t,rfl,rfl⟩<;>rfl
 pyHash:=fun hv h=>by
  rcases jbs hv with ⟨i,t,rfl,rfl⟩|⟨x,t,rfl,rfl⟩
  ·exact wpAny_pyHash_int h
  ·exact wpAny_pyHash_str h
 eqBool:=fun hu hv h=>by
  rcases jbs hu with ⟨i,t,rfl,rfl⟩|⟨x,t,rfl,rfl⟩
  ·rcases jbs hv with ⟨j,u,rfl,rfl⟩|⟨y,u,rfl,rfl⟩
   ·rw[jCf] at h;exact wpAny_eqBool_int h
   ·rw[jCg] at h;exact SeqAt.EqAt.int_str i t y u _ _ _ _ h
  ·rcases jbs hv with ⟨j,u,rfl,rfl⟩|⟨y,u,rfl,rfl⟩
   ·rw[jCh] at h;exact SeqAt.EqAt.str_int x t j u _ _ _ _ h
   ·rw[jCi] at h;exact wpAny_eqBool_str h
 «strs»:=fun k x t v h=>by
  rcases jbs h with ⟨i,u,rfl,e⟩|⟨y,u,rfl,e⟩
  ·exact nomatch e
  ·injection e with e1 _
   subst e1;cases v<;>rfl
theorem jpn(prog:Program)(w:World)(i:Int)(t:Tok):(jcw prog w).is (.inl i) (.int i t)=true:=jtt i t
theorem jpo(prog:Program)(w:World)(x:Str)(t:Tok):(jcw prog w).is (.inr x) (.str x t)=true:=jtu x t
inductive V where
 | non|bl (b:Bool)|int (i:Int)|str (x:Str)|ref (a:Addr)|ty (n:String)
 deriving DecidableEq
def RelV:V->Value->Prop
 | .non,u=>u=Value.none
 | .bl b,u=>u=Value.bool b
 | .int i,u=>∃ t,u=Value.int i t
 | .str x,u=>∃ t,u=Value.str x t
 | .ref a,u=>u=Value.ref a
 | .ty n,u=>u=Value.type n
abbrev Vals:List V->List Value->Prop:=Paired RelV
theorem Vals.length{xs:List V}{us:List Value}(r:Vals xs us):xs.length=us.length:=Paired.length r
theorem Vals.get:∀ {xs:List V} {us:List Value} {i:Nat} {x:V},Vals xs us->xs[i]? = some x->∃ u,us[i]? = some u/\RelV x u
 | _,_,_,_,.nil,e=>by simp at e
 | _,_,0,_,.cons r _,e=>by simp at e;subst e;exact⟨_,rfl,r⟩
 | _,_,i+1,x,.cons _ t,e=>by
  obtain⟨u,h1,h2⟩:=Vals.get (i:=i) (x:=x) t (by simpa using e);exact⟨u,by simpa using h1,h2⟩
theorem Vals.set{x:V}{u:Value}(r:RelV x u):∀ {xs:List V} {us:List Value} (i:Nat),Vals xs us->Vals (xs.set i x) (us.set i u)
 | _,_,_,.nil=>.nil
 | _,_,0,.cons _ t=>.cons r t
 | _,_,i+1,.cons q t=>.cons q (Vals.set r i t)
theorem Vals.append:∀ {xs ys:List V} {us ws:List Value},Vals xs us->Vals ys ws->Vals (xs++ys) (us++ws)
 | _,_,_,_,.nil,s=>s
 | _,_,_,_,.cons r t,s=>.cons r (Vals.append t s)
theorem Vals.take:∀ {xs:List V} {us:List Value} (n:Nat),Vals xs us->Vals (xs.take n) (us.take n)
 | _,_,0,_=>.nil
 | _,_,_+1,.nil=>.nil
 | _,_,n+1,.cons r t=>.cons r (Vals.take n t)
theorem Vals.drop:∀ {xs:List V} {us:List Value} (n:Nat),Vals xs us->Vals (xs.drop n) (us.drop n)
 | _,_,0,r=>r
 | _,_,_+1,.nil=>.nil
 | _,_,n+1,.cons _ t=>Vals.drop n t
def RelO:Option V->Option Value->Prop
 | some v,some u=>RelV v u
 | none,none=>True
 | _,_=>False
def KV{κ:Type}:List (κ×V)->List (κ×Value)->Prop:=Paired fun (p:κ×V) (q:κ×Value)=>p.1=q.1/\RelV p.2 q.2
noncomputable def kV:Key->V
 | .inl i=>.int i
 | .inr x=>.str x
inductive HO where
  | lst (xs:List V)
  | tup (xs:List V)
  | dK (kvs:List (Key×V))|dT (kvs:List (List Key×V))
  | ins (C dx:Addr) (fs:List (Str×V))
  | own (x:Addr)
  | xd (fs:List (Str×V))
  | met (f x:Addr)
  | rng (lo hi:Int)
  | frz (o:Obj) (u:HO)
  | tbl (ps:Array Value)
  | ext (φ:Heap->Prop)
abbrev Hp:=Addr->Option HO
noncomputable def upd(H:Hp)(a:Addr)(o:HO):Hp:=fun b=>if b=a then some o else H b
theorem jaq{H:Hp}{a:Addr}{o:HO}:upd H a o a=some o:=by unfold upd;rw[if_pos rfl]
theorem jar{H:Hp}{a b:Addr}{o:HO}(h:b≠a):upd H a o b=H b:=by unfold upd;rw[if_neg h]
theorem jC6{H:Hp}{a b:Addr}{o u:HO}(h:H a=some o)(h':H b=some u)(d:o≠u):a≠b:=by
 intro e;subst e;rw[h] at h';exact d (zbz h')
theorem jaz{H:Hp}{a b:Addr}{o:HO}(h:H a=some o)(h':H b=none):a≠b:=by
 intro e;subst e;rw[h] at h';cases h'
section
variable (P:Program)(w:World)
def ObjOk(H:Hp)(h:Heap)(a:Addr):HO->Prop
 | .lst xs=>xs.length<=sizeLine/\∃ (its:List Value) (n:Nat),Vals xs its/\h.get? a=some { cls:=.type "list",data:=.seq its.toArray n }
 | .tup xs=>xs.length<=sizeLine/\∃ its:List Value,Vals xs its/\IsTup h a its.toArray
 | .dK kvs=>kvs.length<=sizeLine/\(a == sysModules)=false/\∃ vs,KV kvs vs/\h.DictOf (jcw P w) a vs
 | .dT kvs=>kvs.length<=sizeLine/\(a == sysModules)=false/\∃ xs:List (List Key×Addr×Value),
   Paired (fun (p:List Key×V) (q:List Key×Addr×Value)=>p.1=q.1/\H q.2.1=some (.tup (p.1.map kV))/\RelV p.2 q.2.2) kvs xs /\
   ∃ o es ep,h.get? a=some o/\o.ExactDict/\o.data=.dict es ep/\es.toList=xs.map (entryOfKey (tupleKind (jcw P w)))/\(xs.map (·.1)).Nodup
 | .ins C dx fs=>H dx=some (.own a)/\fs.length<=1000/\dx≠a/\h.get? a=some (W.instObj C dx) /\
   ∃ mA,h.Ns1 dx mA/\(∀ f,RelO (fs.lookup f) (mA f))/\PySem.Within mA (fs.map (·.1))
 | .own _=>∃ o,h.get? a=some o
 | .xd fs=>∃ mA,h.Ns1 a mA/\∀ f,RelO (fs.lookup f) (mA f)
 | .rng lo hi=>∃ t u v,h.get? a=some { cls:=.type "range",data:=.fields #[.int lo t,.int hi u,.int 1 v] }
 | .frz o u=>h.get? a=some o/\ObjOk H h a u
 | .tbl ps=>h.get? a=some { cls:=.none,data:=.fields ps }
 | .met f x=>h.get? a=some (W.methodObj (.ref f) (.ref x))
 | .ext φ=>φ h/\(∃ o,h.get? a=some o)/\∀ h1 h2:Heap,φ h1->(∀ o,h1.get? a=some o->h2.get? a=some o)->φ h2
def HOk(H:Hp)(h:Heap):Prop:=∀ a o,H a=some o->ObjOk P w H h a o
end
section
variable {P:Program}{w:World}{H H':Hp}{h h':Heap}{a:Addr}{o:HO}
theorem ObjOk.lt(x:ObjOk P w H h a o):a<h.objs.size:=by
 cases o with
 | lst xs=>obtain⟨_,_,_,_,e⟩:=x;exact zbw e
 | tup xs=>obtain⟨_,_,_,p⟩:=x;exact p.lt
 | dK kvs=>obtain⟨_,_,_,_,o,_,_,e,_⟩:=x;exact zbw e
 | dT kvs=>obtain⟨_,_,_,_,o,_,_,e,_⟩:=x;exact zbw e
 | ins C dx fs=>obtain⟨_,_,_,e,_⟩:=x;exact zbw e
 | own y=>obtain⟨_,e⟩:=x;exact zbw e
 | xd fs=>obtain⟨_,⟨_,_,_,e,_⟩,_⟩:=x;exact zbw e
 | rng lo hi=>obtain⟨_,_,_,e⟩:=x;exact zbw e
 | frz ob u=>obtain⟨e,_⟩:=x;exact zbw e
 | tbl ps=>exact zbw (show h.get? a=some _ from x)
 | met f y=>exact zbw (show h.get? a=some _ from x)
 | ext φ=>obtain⟨_,⟨_,e⟩,_⟩:=x;exact zbw e
theorem Paired.mapP{α β:Type}{F G:α->β->Prop}:∀ {l₁:List α} {l₂:List β},Paired F l₁ l₂->(∀ a b,F a b->G a b)->Paired G l₁ l₂
 | _,_,.nil,_=>.nil
 | _,_,.cons r t,f=>.cons (f _ _ r) (Paired.mapP t f)
theorem ObjOk.stay(x:ObjOk P w H h a o)(k:∀ b u,(b=a\/H b=some (.own a))->h.get? b=some u->h'.get? b=some u)
  (ho:∀ b,H b=some (.own a)->H' b=some (.own a)) (ht:∀ b xs,H b=some (.tup xs)->H' b=some (.tup xs)):ObjOk P w H' h' a o:=by
 induction o with
 | lst xs=>obtain⟨z,its,n,r,e⟩:=x;exact⟨z,its,n,r,k _ _ (.inl rfl) e⟩
 | tup xs=>obtain⟨z,its,r,ob,e,c⟩:=x;exact⟨z,its,r,ob,k _ _ (.inl rfl) e,c⟩
 | dK kvs=>obtain⟨z,y,vs,r,ob,es,ep,e,c⟩:=x;exact⟨z,y,vs,r,ob,es,ep,k _ _ (.inl rfl) e,c⟩
 | dT kvs =>
  obtain⟨z,y,xs,r,ob,es,ep,e,c⟩:=x;exact⟨z,y,xs,Paired.mapP r fun p q z=>⟨z.1,ht _ _ z.2.1,z.2.2⟩,ob,es,ep,k _ _ (.inl rfl) e,c⟩
 | ins C dx fs =>
  obtain⟨d,z,ne,e,mA,⟨od,es,ep,e2,c⟩,r⟩:=x;exact⟨ho _ d,z,ne,k _ _ (.inl rfl) e,mA,⟨od,es,ep,k _ _ (.inr d) e2,c⟩,r⟩
 | own y=>obtain⟨ob,e⟩:=x;exact⟨ob,k _ _ (.inl rfl) e⟩
 | xd fs=>obtain⟨mA,⟨od,es,ep,e,c⟩,r⟩:=x;exact⟨mA,⟨od,es,ep,k _ _ (.inl rfl) e,c⟩,r⟩
 | rng lo hi=>obtain⟨t,u,v,e⟩:=x;exact⟨t,u,v,k _ _ (.inl rfl) e⟩
 | frz ob u ih=>obtain⟨e,q⟩:=x;exact⟨k _ _ (.inl rfl) e,ih q⟩
 | tbl ps =>
  have e:h.get? a=some { cls:=.none,data:=.fields ps }:=x;show h'.get? a=some { cls:=.none,data:=.fields ps };exact k a _ (.inl rfl) e
 | met f y =>
  have e:h.get? a=some (W.methodObj (.ref f) (.ref y)):=x;show h'.get? a=some (W.methodObj (.ref f) (.ref y));exact k a _ (.inl rfl) e
 | ext φ=>obtain⟨p,⟨o,e⟩,st⟩:=x;exact⟨st _ _ p fun o q=>k _ _ (.inl rfl) q,⟨o,k _ _ (.inl rfl) e⟩,st⟩
theorem HOk.lt(x:HOk P w H h)(e:H a=some o):a<h.objs.size:=(x a o e).lt
theorem HOk.fresh(x:HOk P w H h)(e:h.objs.size<=a):H a=none:=by
 cases q:H a with
 | none=>rfl
 | some u=>exact absurd (zcy (x.lt q) e) (Nat.lt_irrefl _)
theorem HOk.kept(x:HOk P w H h)(k:∀ b u,h.get? b=some u->h'.get? b=some u):HOk P w H h':=fun a o e =>
 (x a o e).stay (fun b u _ q=>k b u q) (fun _ q=>q) fun _ _ q=>q
theorem HOk.laid(x:HOk P w H h)(k:∀ b u,h.get? b=some u->h'.get? b=some u)(hp:h.objs.size<=a)(new:ObjOk P w (upd H a o) h' a o):HOk P w (upd H a o) h':=fun b u e=>by
 have hn:=x.fresh hp
 by_cases hb:b=a
 ·subst hb;rw[jaq] at e;cases e;exact new
 ·rw[jar hb] at e;exact (x b u e).stay (fun c v _ q=>k c v q) (fun c q=>by rw[jar (jaz q hn)];exact q) fun c xs q=>by rw[jar (jaz q hn)];exact q
end
def Rd(H:Hp)(a:Addr)(u:HO):Prop:=H a=some u\/∃ o,H a=some (.frz o u)
theorem Rd.ok{P:Program}{w:World}{H:Hp}{h:Heap}{a:Addr}{u:HO}(r:Rd H a u)(x:HOk P w H h):ObjOk P w H h a u:=by
 rcases r with r|⟨o,r⟩
 ·exact x a u r
 ·obtain⟨_,q⟩:=x a _ r;exact q
def Mut:Option HO->Prop
 | some (.lst _)=>True
 | some (.dK _)=>True
 | some (.dT _)=>True
 | some (.ins _ _ _)=>True
 | some (.ext _)=>True
 | _=>False
section
variable {P:Program}{w:World}{H:Hp}{h h':Heap}{x e:Addr}{o':HO}
theorem HOk.write(ok:HOk P w H h)(mu:Mut (H x))(he:e=x\/H e=some (.own x))(k:∀ b u,b≠e->h.get? b=some u->h'.get? b=some u)(heo:∃ u,h'.get? e=some u)
  (new:ObjOk P w (upd H x o') h' x o'):HOk P w (upd H x o') h':=fun b u q=>by
 have nown:∀ c y,H c=some (.own y)->c≠x:=fun c y r z=>by subst z;rw[r] at mu;exact mu
 have ntup:∀ c xs,H c=some (.tup xs)->c≠x:=fun c xs r z=>by subst z;rw[r] at mu;exact mu
 by_cases hb:b=x
 ·subst hb;rw[jaq] at q;cases q;exact new
 ·rw[jar hb] at q
  by_cases hbe:b=e
  ·have q':H b=some (.own x):=by
    rcases he with z|z
    ·exact absurd (hbe.trans z) hb
    ·rw[hbe];exact z
   rw[q] at q';cases q'
   obtain⟨v,hv⟩:=heo;exact⟨v,by rw[hbe];exact hv⟩
  ·refine (ok b u q).stay (fun c v hc r=>k c v ?_ r) (fun c r=>by rw[jar (nown c b r)];exact r) fun c xs r=>by rw[jar (ntup c xs r)];exact r
   rcases hc with rfl|hc
   ·exact hbe
   ·rintro rfl;rcases he with z|z
    ·exact nown c b hc z
    ·rw[hc] at z;cases z;exact hb rfl
end
structure Un(fs ex:List Addr)(H H':Hp)(h h':Heap):Prop where
 keep:∀ b o,h.get? b=some o->H b=none->b∉fs->b∉ex->h'.get? b=some o
 slot:∀ b o,h.get? b=some o->H b=none->b∈fs->b∉ex->∃ sl,h'.get? b=some { o with slots:=sl }
 free:∀ b o,h.get? b=some o->H b=none->b∉ex->H' b=none
 there:∀ b o,h.get? b=some o->b∉ex->∃ o',h'.get? b=some o'
 tups:∀ b xs,H b=some (.tup xs)->H' b=some (.tup xs)
 frzs:∀ b o u,H b=some (.frz o u)->H' b=some (.frz o u)
 tbls:∀ b ps,H b=some (.tbl ps)->∃ more,H' b=some (.tbl (ps++more))
section
variable {fs ex:List Addr}{H H1:Hp}{h h1 h':Heap}{a x e:Addr}{o:HO}
theorem Un.any(u:Un fs ex H H1 h h1){b:Addr}{ob:Obj}(q:h.get? b=some ob)(n:H b=none)(hx:b∉ex):∃ sl,h1.get? b=some { ob with slots:=sl }:=by
 by_cases hb:b∈fs
 ·exact u.slot b ob q n hb hx
 ·exact⟨ob.slots,u.keep b ob q n hb hx⟩
theorem Un.kept(k:∀ b u,h.get? b=some u->h'.get? b=some u):Un fs ex H H h h' :=
 ⟨fun b ob q _ _ _=>k b ob q,fun b ob q _ _ _=>⟨ob.slots,k b ob q⟩,fun _ _ _ n _=>n,fun b ob q _=>⟨ob,k b ob q⟩,fun _ _ q=>q,fun _ _ _ q=>q,fun _ ps q=>⟨#[],by rw[q];simp⟩⟩
theorem Un.refl:Un fs ex H H h h:=Un.kept fun _ _ q=>q
theorem Un.laid(k:∀ b u,h.get? b=some u->h'.get? b=some u)(hp:h.objs.size<=a)(hn:H a=none):Un fs ex H (upd H a o) h h' where
 keep:=fun b u q _ _ _=>k b u q
 slot:=fun b u q _ _ _=>⟨u.slots,k b u q⟩
 free:=fun b u q n _=>by rw[jar (zcb (zcy (zbw q) hp))];exact n
 there:=fun b u q _=>⟨u,k b u q⟩
 tups:=fun b xs q=>by rw[jar (jaz q hn)];exact q
 frzs:=fun b u xs q=>by rw[jar (jaz q hn)];exact q
 tbls:=fun b ps q=>⟨#[],by rw[jar (jaz q hn),q];simp⟩
theorem Un.write(mu:Mut (H x))(he:e=x\/H e=some (.own x))(k:∀ b u,b≠e->h.get? b=some u->h'.get? b=some u)(heo:∃ u,h'.get? e=some u):Un fs ex H (upd H x o) h h':=by
 have hx:∀ b,H b=none->b≠x:=fun b n z=>by subst z;rw[n] at mu;exact mu
 have hb:∀ b,H b=none->b≠e:=fun b n z=>by
  subst z;rcases he with r|r
  ·exact hx b n r
  ·rw[n] at r;cases r
 have hm:∀ b u,H b=some u->¬ Mut (some u)->b≠x:=fun b u q nm z=>by subst z;rw[q] at mu;exact nm mu
 refine⟨fun b u q n _ _=>k b u (hb b n) q,fun b u q n _ _=>⟨u.slots,k b u (hb b n) q⟩,fun b u q n _=>by rw[jar (hx b n)];exact n,fun b u q _=>?_,
  fun b xs q=>by rw[jar (hm b _ q fun z=>z)];exact q,fun b u xs q=>by rw[jar (hm b _ q fun z=>z)];exact q,fun b ps q=>⟨#[],by rw[jar (hm b _ q fun z=>z),q];simp⟩⟩
 by_cases hbe:b=e
 ·subst hbe;exact heo
 ·exact⟨u,k b u hbe q⟩
end
noncomputable def trk(h:Heap)(H:Hp):List Addr:=(List.range h.objs.size).filter fun a=>(H a).isSome
def hidT(h:Heap)(H:Hp):Heap:=W.hideAll h (trk h H)
theorem jti(h:Heap)(H:Hp):(hidT h H).objs.size=h.objs.size:=W.hideAll_size _ _
theorem jwc{h:Heap}{H:Hp}{b:Addr}{o:Obj}(e:h.get? b=some o)(n:H b=none):(hidT h H).get? b=some o :=
 W.hideAll_get _ e fun hm=>by
  have q:(H b).isSome=true:=(zdx.mp hm).2;rw[n] at q;simp at q
theorem jzv{h:Heap}{H:Hp}{b:Addr}{o:Obj}(e:(hidT h H).get? b=some o):h.get? b=some o/\H b=none:=by
 have e':h.get? b=some o:=W.of_hideAll (trk h H) e;refine⟨e',?_⟩
 cases q:H b with
 | none=>rfl
 | some x =>
  have hm:b∈trk h H:=zdx.mpr ⟨zdc.mpr (zbw e'),by simp[q]⟩;have z:(hidT h H).get? b=none:=W.hideAll_none (trk h H) hm;rw[z] at e;cases e
noncomputable def jyi(g h:Heap)(L:Addr):qd:=(List.range h.objs.size).filterMap fun a=>if a=L\/(g.get? a).isSome=true then none else (h.get? a).map fun o=>(a,o)
def rest(g h:Heap)(L d:Addr):qd:=(jyi g h L).filter fun p=>decide (p.1≠d)
structure Mod(K:W.Frag)(mg:qc)(base:Heap):Prop where
 kin:K.In base
 glob:base.Ns mainGlobals mg
 blt:∃ mb,base.Ns builtinsNs mb/\∀ x:Str,x≠"__name__"->mb x=bootBuiltins x
 nolimit:base.NoLimit
structure Cx where
 prog:Program
 w:World
 K:W.Frag
 mg:qc
 base:Heap
 A:Around
 N:List Str
 s₀:Shared
 Hz:Hp
 env:Env
 outer:List Env
 stack:List Env
 ex:List Addr
 fn:Str->Bool
 calm:Bool
 pn:qd
 xe:qe
noncomputable def frs(l:List Env):List Addr:=l.filterMap (·.frame)
abbrev Cx.fs(X:Cx):List Addr:=frs X.outer
def Vis(sc:Scope)(x:Str):Prop:=sc.names.lookup x=some .local\/sc.names.lookup x=some .cell\/sc.names.lookup x=some .free
def Loc(sc:Scope)(x:Str):Prop:=sc.names.lookup x=some .local\/sc.names.lookup x=some .cell
def Look(env:Env)(h:Heap)(m:qc)(x:Str)(u:Value):Prop :=
 (env.kindOf x=some .local/\m x=some u)\/((env.kindOf x=some .cell\/env.kindOf x=some .free)/\∃ c,env.cells.lookup x=some c/\h.IsCell c (some u))
structure Cx.Ok(X:Cx):Prop where
 mod:Mod X.K X.mg X.base
 kind:X.env.scope.kind=.function
 glob:X.env.globals=mainGlobals
 blt:X.env.builtins=builtinsNs
 above:X.s₀.heap.objs.size<=X.env.locals
 inj:∀ x y c,X.env.cells.lookup x=some c->X.env.cells.lookup y=some c->x=y
 has:∀ x,(X.env.kindOf x=some .cell\/X.env.kindOf x=some .free)->∃ c,X.env.cells.lookup x=some c
 cab:∀ x c,X.fn x=true->X.env.cells.lookup x=some c->X.s₀.heap.objs.size<=c
 hd:X.calm=true->X.A.handled=none
 frames:X.A.frames=some X.stack
 stk:X.stack=X.outer\/(X.stack=X.env::X.outer/\X.env.frame=some X.env.locals)
 exf:∀ b∈X.ex,b≠X.env.locals/\∀ x c,X.env.cells.lookup x=some c->c≠b
 bs:∀ b o,X.base.get? b=some o->X.s₀.heap.get? b=some o/\X.Hz b=none
 bsz:X.base.objs.size<=X.s₀.heap.objs.size
 noex:∀ b o,X.base.get? b=some o->b∉X.ex
 exfs:∀ b∈X.ex,b∉X.fs
 funs:X.s₀.heap.FunFrames X.base X.outer
 frf:∀ b∈X.fs,X.Hz b=none
structure Inv(X:Cx)(U:qd)(Z:List (Option V))(H:Hp)(s:Shared):Prop where
 ok:X.Ok
 os:s.os=X.s₀.os
 bare:AllBare s.gens
 base:Un X.fs X.ex X.Hz H X.s₀.heap s.heap
 loc:∃ m,s.heap.Ns X.env.locals m/\∀ (i:Nat) (x:Str) (v:V),X.N[i]? = some x->Z[i]? = some (some v)->Vis X.env.scope x->∃ u,RelV v u/\Look X.env s.heap m x u
 cell:∀ x c,X.env.cells.lookup x=some c->∃ v,s.heap.IsCell c v
 free:H X.env.locals=none
 freeC:∀ x c,X.env.cells.lookup x=some c->H c=none
 pin:∀ p∈X.pn++U,s.heap.get? p.1=some p.2/\H p.1=none/\p.1≠X.env.locals/\p.1∉X.fs/\∀ v,p.2.data≠.cell v
 hok:HOk X.prog X.w H s.heap
 len:Z.length=X.N.length
section
variable {X:Cx}{U:qd}{Z:List (Option V)}{H H':Hp}{s:Shared}{h':Heap}
theorem Cx.Ok.nofr(ok:X.Ok){b:Addr}{o:Obj}(e:X.base.get? b=some o):b∉X.fs:=fun hb=>by
 have:=(ok.funs.mem hb).1;rw[e] at this;cases this
theorem Inv.bs(I:Inv X U Z H s):∀ b o,X.base.get? b=some o->s.heap.get? b=some o/\H b=none:=fun b o e =>
 ⟨I.base.keep b o (I.ok.bs b o e).1 (I.ok.bs b o e).2 (I.ok.nofr e) (I.ok.noex b o e),I.base.free b o (I.ok.bs b o e).1 (I.ok.bs b o e).2 (I.ok.noex b o e)⟩
theorem Inv.bk(I:Inv X U Z H s):∀ b o,X.base.get? b=some o->s.heap.get? b=some o:=fun b o e=>(I.bs b o e).1
theorem Inv.mod(I:Inv X U Z H s):Mod X.K X.mg X.base:=I.ok.mod
theorem Inv.kIn(I:Inv X U Z H s):X.K.In s.heap:=I.ok.mod.kin.keeps I.bk
theorem Inv.lt(I:Inv X U Z H s):X.env.locals<s.heap.objs.size:=let ⟨_,hn,_⟩:=I.loc;hn.lt
theorem Inv.sz(I:Inv X U Z H s):X.s₀.heap.objs.size<=s.heap.objs.size:=zez I.ok.above (Nat.le_of_lt I.lt)
theorem Inv.nofs(I:Inv X U Z H s){a:Addr}(h:s.heap.objs.size<=a):a∉X.fs:=fun hb=>by
 obtain⟨_,o,ho,_⟩:=I.ok.funs.mem hb;exact absurd (zcy (zbw ho) (zez I.sz h)) (Nat.lt_irrefl _)
theorem Inv.cne(I:Inv X U Z H s):∀ x c,X.env.cells.lookup x=some c->c≠X.env.locals:=fun x c e z=>by
 obtain⟨v,o,ho,hd⟩:=I.cell x c e;obtain⟨m,⟨o',es,ep,ho',hd',_⟩,_⟩:=I.loc;rw[z,ho'] at ho;cases ho;rw[hd'] at hd;cases hd
theorem Inv.funs(I:Inv X U Z H s):s.heap.FunFrames X.base X.outer:=by
 have all:∀ (l:List Env),(∀ b∈frs l,b∈X.fs)->X.s₀.heap.FunFrames X.base l->s.heap.FunFrames X.base l:=by
  intro l
  induction l with
  | nil=>intro _ _;trivial
  | cons env r ih =>
   intro hs hl;obtain⟨hk,⟨L,o,hf,hn,ho,hd⟩,hr⟩:=hl;have hL:L∈X.fs:=hs L (by unfold frs;rw[List.filterMap_cons,hf];exact zaa);obtain⟨sl,e⟩:=I.base.slot L o ho (I.ok.frf L hL) hL fun z=>I.ok.exfs L z hL
   exact⟨hk,⟨L,_,hf,hn,e,hd⟩,ih (fun b hb=>hs b (by unfold frs;rw[List.filterMap_cons,hf];exact zaw _ hb)) hr⟩
 exact all X.outer (fun _ hb=>hb) I.ok.funs
theorem Inv.stack(I:Inv X U Z H s):s.heap.FunFrames X.base X.stack:=by
 rcases I.ok.stk with e|⟨e,hf⟩
 ·rw[e];exact I.funs
 ·rw[e];obtain⟨m,hn,_⟩:=I.loc;refine .cons (by rw[I.ok.kind];decide) hf hn ?_ I.funs;exact Heap.get?_none_of_le (zez I.ok.bsz I.ok.above)
theorem Inv.stkSub(I:Inv X U Z H s):∀ b∈frs X.stack,b∈X.env.locals::X.fs:=fun b hb=>by
 rcases I.ok.stk with e|⟨e,hf⟩
 ·rw[e] at hb;exact zaw _ hb
 ·rw[e] at hb;unfold frs at hb;rw[List.filterMap_cons,hf] at hb;exact hb
theorem Inv.stkFree(I:Inv X U Z H s):∀ b∈frs X.stack,H b=none:=fun b hb=>by
 rcases List.mem_cons.mp (I.stkSub b hb) with e|hb
 ·rw[e];exact I.free
 ·obtain⟨_,o,ho,_⟩:=I.ok.funs.mem hb;exact I.base.free b o ho (I.ok.frf b hb) fun z=>I.ok.exfs b z hb
theorem Inv.step{g':Array GenState}{t':Nat}{d':Drawn}{ch:List Addr}(I:Inv X U Z H s)
  (hch:∀ b∈ch,(b∈X.ex\/X.s₀.heap.objs.size<=b)/\b≠X.env.locals/\(∀ x c,X.env.cells.lookup x=some c->c≠b)/\∀ p∈X.pn++U,p.1≠b)
  (keep:∀ b o,b≠X.env.locals->b∉X.fs->b∉ch->s.heap.get? b=some o->H b=none->h'.get? b=some o)
  (slot:∀ b o,b≠X.env.locals->b∈X.fs->b∉ch->s.heap.get? b=some o->H b=none->∃ sl,h'.get? b=some { o with slots:=sl }) (free:∀ b o,b∉ch->s.heap.get? b=some o->H b=none->H' b=none)
  (there:∀ b o,b∉ch->s.heap.get? b=some o->∃ o',h'.get? b=some o')
  (tups:∀ b xs,H b=some (.tup xs)->H' b=some (.tup xs)) (frzs:∀ b o u,H b=some (.frz o u)->H' b=some (.frz o u)) (tbls:∀ b ps,H b=some (.tbl ps)->∃ more,H' b=some (.tbl (ps++more)))
  (ns:∀ m,s.heap.Ns X.env.locals m->h'.Ns X.env.locals m) (hok:HOk X.prog X.w H' h') (hg:AllBare g') :
  Inv X U Z H' { s with heap:=h',gens:=g',drawn:=d',toks:=t' }:=by
 have neL:∀ b o,X.s₀.heap.get? b=some o->b≠X.env.locals:=fun b o e=>zcb (zcy (zbw e) I.ok.above)
 have neC:∀ b o,X.s₀.heap.get? b=some o->b∉X.ex->b∉ch:=fun b o e hx hb=>by
  rcases (hch b hb).1 with z|z
  ·exact hx z
  ·exact absurd (zcy (zbw e) z) (Nat.lt_irrefl _)
 have cellK:∀ x c,X.env.cells.lookup x=some c->∀ v,s.heap.IsCell c v->h'.IsCell c v:=fun x c e v ⟨o,ho,hd⟩=>by
  have nch:c∉ch:=fun z=>(hch c z).2.2.1 x c e rfl
  by_cases hc:c∈X.fs
  ·obtain⟨sl,q⟩:=slot c o (I.cne x c e) hc nch ho (I.freeC x c e);exact⟨_,q,hd⟩
  ·exact⟨o,keep c o (I.cne x c e) hc nch ho (I.freeC x c e),hd⟩
 refine⟨I.ok,I.os,hg,⟨fun b o e n hb hx=>?_,fun b o e n hb hx=>?_,fun b o e n hx=>?_,fun b o e hx=>?_,fun b xs e=>tups b xs (I.base.tups b xs e),fun b o xs e=>frzs b o xs (I.base.frzs b o xs e),fun b ps e=>?_⟩,?_,fun x c e=>?_,?_,fun x c e=>?_,fun p hp=>?_,hok,I.len⟩
 ·exact keep b o (neL b o e) hb (neC b o e hx) (I.base.keep b o e n hb hx) (I.base.free b o e n hx)
 ·obtain⟨sl,e1⟩:=I.base.slot b o e n hb hx;obtain⟨sl',e2⟩:=slot b _ (neL b o e) hb (neC b o e hx) e1 (I.base.free b o e n hx);exact⟨sl',e2⟩
 ·obtain⟨o',e1⟩:=I.base.there b o e hx;exact free b o' (neC b o e hx) e1 (I.base.free b o e n hx)
 ·obtain⟨o',e1⟩:=I.base.there b o e hx;exact there b o' (neC b o e hx) e1
 ·obtain⟨m1,e1⟩:=I.base.tbls b ps e;obtain⟨m2,e2⟩:=tbls b _ e1;exact⟨m1++m2,by rw[e2,Array.append_assoc]⟩
 ·obtain⟨m,hn,hl⟩:=I.loc;refine⟨m,ns m hn,fun i x v e1 e2 e3=>?_⟩;obtain⟨u,r,l⟩:=hl i x v e1 e2 e3;refine⟨u,r,?_⟩;rcases l with l|⟨k,c,e,z⟩
  ·exact .inl l
  ·exact .inr ⟨k,c,e,cellK x c e _ z⟩
 ·obtain⟨v,z⟩:=I.cell x c e;exact⟨v,cellK x c e v z⟩
 ·obtain⟨m,⟨o,_,_,ho,_⟩,_⟩:=I.loc;exact free _ o (fun z=>(hch _ z).2.1 rfl) ho I.free
 ·obtain⟨v,o,ho,hd⟩:=I.cell x c e;exact free c o (fun z=>(hch c z).2.2.1 x c e rfl) ho (I.freeC x c e)
 ·obtain⟨e,n,ne,nf,d⟩:=I.pin p hp;have nch:p.1∉ch:=fun z=>(hch p.1 z).2.2.2 p hp rfl
  exact⟨keep p.1 p.2 ne nf nch e n,free p.1 p.2 nch e n,ne,nf,d⟩
theorem Inv.un{t':Nat}(I:Inv X U Z H s)(u:Un X.fs [] H H' s.heap h')(hok:HOk X.prog X.w H' h'):Inv X U Z H' { s with heap:=h',toks:=t' }:=by
 obtain⟨m,⟨o,es,ep,ho,r⟩,_⟩:=id I.loc;obtain⟨sl,hL⟩:=u.any ho I.free (by simp);exact I.step (g':=s.gens) (d':=s.drawn) (ch:=[]) (fun _ z=>nomatch z) (fun b o _ hb _ e n=>u.keep b o e n hb (by simp)) (fun b o _ hb _ e n=>u.slot b o e n hb (by simp)) (fun b o _ e n=>u.free b o e n (by simp)) (fun b o _ e=>u.there b o e (by simp)) u.tups u.frzs u.tbls (fun m' hm=>by
  obtain⟨o',es',ep',ho',r'⟩:=hm;rw[ho] at ho';cases ho'
  exact⟨_,es',ep',hL,r'⟩) hok I.bare
theorem Inv.call{g':Array GenState}{t':Nat}{d':Drawn}{ch:List Addr}(I:Inv X U Z H s)(u:Un (frs X.stack) ch H H' s.heap h')(hok:HOk X.prog X.w H' h')(hg:AllBare g')
  (hch:∀ b∈ch,(b∈X.ex\/X.s₀.heap.objs.size<=b)/\b≠X.env.locals/\(∀ x c,X.env.cells.lookup x=some c->c≠b)/\∀ p∈X.pn++U,p.1≠b) :
  Inv X U Z H' { s with heap:=h',gens:=g',drawn:=d',toks:=t' }:=by
 obtain⟨m,⟨o,es,ep,ho,r⟩,_⟩:=id I.loc;obtain⟨sl,hL⟩:=u.any ho I.free fun z=>(hch _ z).2.1 rfl
 exact I.step (ch:=ch) hch (fun b o hL hb hc e n=>u.keep b o e n (fun z=>(List.mem_cons.mp (I.stkSub b z)).elim hL hb) hc) (fun b o _ _ hc e n=>u.any e n hc) (fun b o hc e n=>u.free b o e n hc) (fun b o hc e=>u.there b o e hc) u.tups u.frzs u.tbls (fun m' hm=>by
  obtain⟨o',es',ep',ho',r'⟩:=hm;rw[ho] at ho';cases ho'
  exact⟨_,es',ep',hL,r'⟩) hok hg
theorem Inv.turned{t':Nat}{it:Addr}(I:Inv X U Z H s)(k:∀ b o,b≠it->s.heap.get? b=some o->h'.get? b=some o)(hn:H it=none)(hL:it≠X.env.locals)
  (h1:it∈X.ex\/X.s₀.heap.objs.size<=it) (h2:∀ x c,X.env.cells.lookup x=some c->c≠it) (h3:∀ p∈X.pn++U,p.1≠it):Inv X U Z H { s with heap:=h',toks:=t' }:=by
 have nit:∀ b u,H b=some u->b≠it:=fun b u e z=>by rw[z,hn] at e;cases e
 refine I.step (g':=s.gens) (d':=s.drawn) (ch:=[it]) (fun b hb=>?_) (fun b o _ _ hc e _=>k b o (fun z=>hc (by simp[z])) e) (fun b o _ _ hc e _=>⟨o.slots,k b o (fun z=>hc (by simp[z])) e⟩) (fun _ _ _ _ n=>n)
  (fun b o hc e=>⟨o,k b o (fun z=>hc (by simp[z])) e⟩) (fun _ _ e=>e) (fun _ _ _ e=>e) (fun b ps e=>⟨#[],by rw[e];simp⟩) (fun m hm=>?_) (fun b u e=>?_) I.bare
 ·have e:b=it:=by simpa using hb
  subst e;exact⟨h1,hL,h2,h3⟩
 ·obtain⟨o,es,ep,ho,r⟩:=hm;exact⟨o,es,ep,k _ o (Ne.symm hL) ho,r⟩
 ·refine (I.hok b u e).stay (fun c v hc q=>k c v ?_ q) (fun _ q=>q) fun _ _ q=>q
  rcases hc with z|z
  ·rw[z];exact nit b u e
  ·exact nit c _ z
theorem Inv.tok(I:Inv X U Z H s)(t:Nat):Inv X U Z H { s with toks:=t }:=I.un (h':=s.heap) (t':=t) Un.refl I.hok
theorem Inv.kept{t':Nat}(I:Inv X U Z H s)(k:∀ b u,s.heap.get? b=some u->h'.get? b=some u):Inv X U Z H { s with heap:=h',toks:=t' }:=I.un (Un.kept k) (I.hok.kept k)
theorem Inv.laid{a:Addr}{o:HO}{t':Nat}(I:Inv X U Z H s)(k:∀ b u,s.heap.get? b=some u->h'.get? b=some u)(hp:s.heap.objs.size<=a)(new:ObjOk X.prog X.w (upd H a o) h' a o) :
  Inv X U Z (upd H a o) { s with heap:=h',toks:=t' }:=I.un (Un.laid k hp (I.hok.fresh hp)) (I.hok.laid k hp new)
theorem Inv.write{x e:Addr}{o:HO}{t':Nat}(I:Inv X U Z H s)(mu:Mut (H x))(he:e=x\/H e=some (.own x))(k:∀ b u,b≠e->s.heap.get? b=some u->h'.get? b=some u)(heo:∃ u,h'.get? e=some u)
  (new:ObjOk X.prog X.w (upd H x o) h' x o):Inv X U Z (upd H x o) { s with heap:=h',toks:=t' }:=I.un (Un.write mu he k heo) (I.hok.write mu he k heo new)
theorem Inv.pins_of{pins':qd}(I:Inv X U Z H s)(h:∀ p∈pins',s.heap.get? p.1=some p.2/\H p.1=none/\p.1≠X.env.locals/\p.1∉X.fs/\∀ v,p.2.data≠.cell v):Inv X pins' Z H s :=
 ⟨I.ok,I.os,I.bare,I.base,I.loc,I.cell,I.free,I.freeC,fun p hp=>(zey.mp hp).elim (fun z=>I.pin p (zdy _ z)) (h p),I.hok,I.len⟩
theorem jq1{N:List Str}(hN:N.Nodup){i j:Nat}{x:Str}(a:N[i]? = some x)(b:N[j]? = some x):i=j:=by
 obtain⟨h1,e1⟩:=zbc.mp a;obtain⟨h2,e2⟩:=zbc.mp b;exact (List.getElem_inj hN).mp (e1.trans e2.symm) abbrev qi(X:Cx)(x:Str):Prop:=X.fn x=true\/X.env.scope.names.lookup x=some .local
theorem jos{M:Model}{A:Around}{E:qe}{i:Nat}{x:Str}{v:V}{u:Value}{Q:Unit->Shared->Prop}(I:Inv X U Z H s)(hN:X.N.Nodup)(hi:X.N[i]? = some x)(hx:Loc X.env.scope x)(r:RelV v u)
  (h:∀ s',Inv X U (Z.set i (some v)) H s'->(∃ a,Heap.SameBut a s.heap s'.heap/\(a=X.env.locals\/X.env.cells.lookup x=some a))->Q () s') (hf:autoParam (qi X x) zau0._auto_1):wpAny M A (storeName X.env x u) Q E s:=by
 obtain⟨m,hn,hl⟩:=id I.loc;have hcls:(X.env.scope.kind == .class || (X.env.scope.kind == .module&&X.env.locals != X.env.globals))=false:=by rw[I.ok.kind];rfl
 have hiZ:i<Z.length:=by rw[I.len];exact (zbc.mp hi).1
 have cne:=I.cne;have tracked:∀ {a:Addr} {h':Heap},(∃ o,s.heap.get? a=some o/\H a=none)->Heap.SameBut a s.heap h'->HOk X.prog X.w H h':=fun {a h'} ha hs b ob e=>by
  obtain⟨_,_,hfree⟩:=ha;refine (I.hok b ob e).stay (fun c w' hc q=>(hs.2 c ?_).trans q) (fun _ q=>q) fun _ _ q=>q
  rintro rfl;rcases hc with rfl|hc
  ·rw[hfree] at e;cases e
  ·rw[hfree] at hc;cases hc
 rcases hx with hk|hk
 ·refine wpAny_storeName_local hk hn (fun h' hn' hs=>?_) hcls;obtain⟨oL,_,_,hoL,_⟩:=id hn;refine h _ ⟨I.ok,I.os,I.bare,⟨fun b o e n hb hx=>?_,fun b o e n hb hx=>?_,I.base.free,fun b o e hx=>?_,I.base.tups,I.base.frzs,I.base.tbls⟩,⟨_,hn',fun j y v' e1 e2 e3=>?_⟩,fun y c e=>?_,I.free,I.freeC,fun p hp=>?_,tracked ⟨oL,hoL,I.free⟩ hs,by simpa using I.len⟩ ⟨_,hs,.inl rfl⟩
  ·exact (hs.2 b (zcb (zcy (zbw e) I.ok.above))).trans (I.base.keep b o e n hb hx)
  ·obtain⟨sl,e1⟩:=I.base.slot b o e n hb hx;exact⟨sl,(hs.2 b (zcb (zcy (zbw e) I.ok.above))).trans e1⟩
  ·obtain⟨o',e1⟩:=I.base.there b o e hx;exact⟨o',(hs.2 b (zcb (zcy (zbw e) I.ok.above))).trans e1⟩
  ·by_cases hj:j=i
   ·subst hj;rw[hi] at e1;cases e1
    rw[zcv hiZ] at e2;cases e2;exact⟨u,r,.inl ⟨hk,by simp⟩⟩
   ·rw[zba (Ne.symm hj)] at e2;obtain⟨u',r',q⟩:=hl j y v' e1 e2 e3;refine⟨u',r',?_⟩;rcases q with ⟨k,e⟩|⟨k,c,e,z⟩
    ·refine .inl ⟨k,?_⟩;have:y≠x:=fun e=>hj (jq1 hN e1 (e ▸ hi))
     simp[this,e]
    ·exact .inr ⟨k,c,e,z.sameBut hs (cne y c e)⟩
  ·obtain⟨w',z⟩:=I.cell y c e;exact⟨w',z.sameBut hs (cne y c e)⟩
  ·obtain⟨e,n,ne,nf,d⟩:=I.pin p hp;exact⟨(hs.2 p.1 ne).trans e,n,ne,nf,d⟩
 ·have hfn:X.fn x=true:=by
   rcases hf with z|z
   ·exact z
   ·rw[z] at hk;cases hk
  obtain⟨c,hc⟩:=I.ok.has x (.inl hk);obtain⟨w',z⟩:=I.cell x c hc;refine wpAny_storeName_cell I.ok.kind hk hc z (fun h' hc' hs=>?_);obtain⟨oc,hoc,hocd⟩:=id z;refine h { s with heap:=h' } ⟨I.ok,I.os,I.bare,⟨fun b o e n hb hx=>?_,fun b o e n hb hx=>?_,I.base.free,fun b o e hx=>?_,I.base.tups,I.base.frzs,I.base.tbls⟩,⟨m,hn.sameBut hs (Ne.symm (cne x c hc)),fun j y v' e1 e2 e3=>?_⟩,fun y c' e=>?_,I.free,I.freeC,fun p hp=>?_,tracked ⟨oc,hoc,I.freeC x c hc⟩ hs,by simpa using I.len⟩ ⟨c,hs,.inr hc⟩
  ·exact (hs.2 b (zcb (zcy (zbw e) (I.ok.cab x c hfn hc)))).trans (I.base.keep b o e n hb hx)
  ·obtain⟨sl,e1⟩:=I.base.slot b o e n hb hx;exact⟨sl,(hs.2 b (zcb (zcy (zbw e) (I.ok.cab x c hfn hc)))).trans e1⟩
  ·obtain⟨o',e1⟩:=I.base.there b o e hx;exact⟨o',(hs.2 b (zcb (zcy (zbw e) (I.ok.cab x c hfn hc)))).trans e1⟩
  ·by_cases hj:j=i
   ·subst hj;rw[hi] at e1;cases e1
    rw[zcv hiZ] at e2;cases e2;exact⟨u,r,.inr ⟨.inl hk,c,hc,hc'⟩⟩
   ·rw[zba (Ne.symm hj)] at e2;obtain⟨u',r',q⟩:=hl j y v' e1 e2 e3;refine⟨u',r',?_⟩;rcases q with q|⟨k,c',e,z'⟩
    ·exact .inl q
    ·refine .inr ⟨k,c',e,z'.sameBut hs ?_⟩;rintro rfl;exact hj (jq1 hN e1 (I.ok.inj _ _ _ e hc ▸ hi))
  ·by_cases hcc:c'=c
   ·subst hcc;exact⟨_,hc'⟩
   ·obtain⟨w2,z2⟩:=I.cell y c' e;exact⟨w2,z2.sameBut hs hcc⟩
  ·obtain⟨e,n,ne,nf,d⟩:=I.pin p hp;refine⟨(hs.2 p.1 ?_).trans e,n,ne,nf,d⟩;intro q;rw[q,hoc] at e;have q':oc=p.2:=zbz e;exact d w' (by rw[<- q'];exact hocd)
theorem jjw{M:Model}{A:Around}{E:qe}{i:Nat}{x:Str}{v:V}{u:Value}{Q:Unit->Shared->Prop}(I:Inv X U Z H s)(hN:X.N.Nodup)(hi:X.N[i]? = some x)(hx:Loc X.env.scope x)(r:RelV v u)
  (h:∀ s',Inv X U (Z.set i (some v)) H s'->Q () s') (hf:autoParam (qi X x) zau0._auto_1):wpAny M A (storeName X.env x u) Q E s :=
 jos I hN hi hx r (fun s' I' _=>h s' I') hf
theorem Inv.call'{s':Shared}{ch:List Addr}(I:Inv X U Z H s)(ho:s'.os=s.os)(u:Un (frs X.stack) ch H H' s.heap s'.heap)(hok:HOk X.prog X.w H' s'.heap)(hg:AllBare s'.gens)
  (hch:∀ b∈ch,(b∈X.ex\/X.s₀.heap.objs.size<=b)/\b≠X.env.locals/\(∀ x c,X.env.cells.lookup x=some c->c≠b)/\∀ p∈X.pn++U,p.1≠b):Inv X U Z H' s':=by
 obtain⟨h',g',d',t',o'⟩:=s';have e:o'=s.os:=ho;subst e;exact I.call (g':=g') (t':=t') (d':=d') u hok hg hch
end
abbrev XK:=Value->Option Addr->Hp->Prop
abbrev St:=List (Option V)
abbrev VK:=V->Hp->Prop
abbrev TE:=St->Hp->VK->Prop
abbrev TT:=St->Hp->(Bool->Hp->Prop)->Prop
abbrev TA:=St->Hp->(List V->Hp->Prop)->Prop
structure Ends where
 nx:St->Hp->Prop
 rt:VK
 bk:St->Hp->Prop:=fun _ _=>False
 ct:St->Hp->Prop:=fun _ _=>False
abbrev TS:=Ends->St->Hp->Prop
inductive EP(X:Cx)(U:qd)(Z:St)(Q:VK)(u:Value)(s':Shared):Prop
 | mk (v:V) (H':Hp) (h0:Inv X U Z H' s') (h1:RelV v u) (h2:Q v H')
inductive TP(X:Cx)(U:qd)(Z:St)(Q:Bool->Hp->Prop)(b:Bool)(s':Shared):Prop
 | mk (H':Hp) (h0:Inv X U Z H' s') (h1:Q b H')
inductive AP(X:Cx)(U:qd)(Z:St)(Q:List V->Hp->Prop)(us:List Value)(s':Shared):Prop
 | mk (vs:List V) (H':Hp) (h0:Inv X U Z H' s') (h1:Vals vs us) (h2:Q vs H')
inductive SN(X:Cx)(U:qd)(Q:St->Hp->Prop)(s':Shared):Prop
 | mk (Z':St) (H':Hp) (hI:Inv X U Z' H' s') (hq:Q Z' H')
inductive SR(X:Cx)(U:qd)(R:VK)(u:Value)(s':Shared):Prop
 | mk (v:V) (Z':St) (H':Hp) (hI:Inv X U Z' H' s') (hr:RelV v u) (hq:R v H')
def SP(X:Cx)(U:qd)(D:Ends)(f:Flow)(s':Shared):Prop :=
 match f with
 | .next=>SN X U D.nx s'
 | .brk=>SN X U D.bk s'
 | .cont=>SN X U D.ct s'
 | .ret u=>SR X U D.rt u s'
def PE(X:Cx)(e:Expr)(t:TE):Prop :=
 ∀ (U:qd) (s:Shared) (Z:St) (H:Hp) (Q:VK),Inv X U Z H s->t Z H Q->wpAny (model X.prog X.w) X.A (eval e X.env) (EP X U Z Q) X.xe s
def PT(X:Cx)(e:Expr)(t:TT):Prop :=
 ∀ (U:qd) (s:Shared) (Z:St) (H:Hp) (Q:Bool->Hp->Prop),Inv X U Z H s->t Z H Q->wpAny (model X.prog X.w) X.A (isTrue e X.env (eval e X.env)) (TP X U Z Q) X.xe s
def PW(X:Cx)(e:Expr)(t:TT):Prop :=
 ∀ (whole:Sem Value) (U:qd) (s:Shared) (Z:St) (H:Hp) (Q:Bool->Hp->Prop),Inv X U Z H s->t Z H Q->wpAny (model X.prog X.w) X.A (isTrue e X.env whole) (TP X U Z Q) X.xe s
theorem PW.pt{X:Cx}{e:Expr}{t:TT}(h:PW X e t):PT X e t:=h _
def PA(X:Cx)(es:List Expr)(t:TA):Prop :=
 ∀ (pos:Pos) (U:qd) (s:Shared) (Z:St) (H:Hp) (Q:List V->Hp->Prop),Inv X U Z H s->t Z H Q->wpAny (model X.prog X.w) X.A (spliced (backTo pos (starEach es X.env))) (AP X U Z Q) X.xe s
def PS(X:Cx)(st:Stmt)(t:TS):Prop :=
 ∀ (U:qd) (s:Shared) (Z:St) (H:Hp) (D:Ends),Inv X U Z H s->t D Z H->wpAny (model X.prog X.w) X.A (exec st X.env) (SP X U D) X.xe s
def PSs(X:Cx)(st:List Stmt)(t:TS):Prop :=
 ∀ (U:qd) (s:Shared) (Z:St) (H:Hp) (D:Ends),Inv X U Z H s->t D Z H->wpAny (model X.prog X.w) X.A (execs st X.env) (SP X U D) X.xe s
theorem thn{α:Type}{t:Sem α}{Q Q':α->Shared->Prop}{M:Model}{A:Around}{E:qe}{s:Shared}(h:wpAny M A t Q E s)(hQ:∀ a s,Q a s->Q' a s):wpAny M A t Q' E s:=wpAny_mono h hQ fun _ _ x=>x
section
variable {X:Cx}
def tVar(i:Nat):TE:=fun Z H Q=>∃ v,Z[i]? = some (some v)/\Q v H
def tC(v:V):TE:=fun _ H Q=>Q v H abbrev qj(x:Str):Prop:=(x == ("__debug__":Str))=false
theorem jlz{i:Nat}{x:Str}{pos:Pos}(hN:X.N[i]? = some x)(hv:Vis X.env.scope x)(hd:autoParam (qj x) zau1._auto_1)(hcd:autoParam ((x == ("__classdict__":Str))=false) zau1._auto_1):PE X (.Name x pos) (tVar i):=by
 intro U s Z H Q I h;obtain⟨v,e,h⟩:=h;obtain⟨m,hn,hl⟩:=I.loc;obtain⟨u,r,l⟩:=hl i x v hN e hv;have fin:EP X U Z Q u s:=⟨v,H,I,r,h⟩
 rcases l with ⟨hk,hm⟩|⟨hk,c,hc,hcell⟩
 ·exact wpAny_Name (wpAny_loadName_local I.ok.kind hk hn hm fin) hd
 ·rcases hk with hk|hk
  ·exact wpAny_Name (wpAny_loadName_cell I.ok.kind hk hc hcell fin) hd
  ·exact wpAny_Name (wpAny_loadName_free I.ok.kind hk hc hcell fin hcd) hd
theorem jyb{i j pos}:PE X (.Constant (.int i) j pos) (tC (.int i)):=fun _ _ _ H _ I h=>wpAny_Constant_int ⟨.int i,H,I.tok _,⟨_,rfl⟩,h⟩
theorem jGf{b j pos}:PE X (.Constant (.bool b) j pos) (tC (.bl b)):=fun _ _ _ H _ I h=>Constant_bool ⟨.bl b,H,I,rfl,h⟩
theorem jDi{j pos}:PE X (.Constant .none j pos) (tC .non):=fun _ _ _ H _ I h=>Constant_none ⟨.non,H,I,rfl,h⟩
theorem jDm{x j pos}:PE X (.Constant (.str x) j pos) (tC (.str x)):=fun _ _ _ H _ I h=>Calls.Constant_str ⟨.str x,H,I.tok _,⟨_,rfl⟩,h⟩
def Gl(X:Cx)(x:Str):Prop:=X.env.kindOf x=some .globalImplicit
theorem jzi{E:qe}{U:qd}{s:Shared}{Z:St}{H:Hp}{x:Str}{u:Value}{pos:Pos}{Q:qe}(I:Inv X U Z H s)(hg:Gl X x)(hm:X.mg x=some u)(h:Q u s)
  (hd:autoParam (qj x) zau1._auto_1):wpAny (model X.prog X.w) X.A (eval (.Name x pos) X.env) Q E s :=
 Calls.Name_function_global I.ok.kind hg (Calls.loadGlobal_global (by rw[I.ok.glob];exact I.mod.glob.keeps I.bk) hm h) hd
theorem jjd{E:qe}{U:qd}{s:Shared}{Z:St}{H:Hp}{x:Str}{u:Value}{pos:Pos}{Q:qe}(I:Inv X U Z H s)(hg:Gl X x)(hm:X.mg x=none)(hv:bootBuiltins x=some u)(h:Q u s)
  (hn:autoParam (x≠"__name__") zau1._auto_1) (hd:autoParam (qj x) zau1._auto_1):wpAny (model X.prog X.w) X.A (eval (.Name x pos) X.env) Q E s:=by
 obtain⟨mb,h1,h2⟩:=I.mod.blt;exact Calls.Name_function_global I.ok.kind hg (Calls.loadGlobal_builtin (by rw[I.ok.glob];exact I.mod.glob.keeps I.bk) hm (by rw[I.ok.blt];exact h1.keeps I.bk) ((h2 x hn).trans hv) h) hd
theorem jz1{x:Str}{v:V}{u:Value}{pos:Pos}(hg:Gl X x)(hm:X.mg x=none)(hv:bootBuiltins x=some u)(r:RelV v u)(hn:autoParam (x≠"__name__") zau1._auto_1)(hd:autoParam (qj x) zau1._auto_1):PE X (.Name x pos) (tC v) :=
 fun _ _ _ H _ I h=>jjd I hg hm hv ⟨v,H,I,r,h⟩ hn hd
variable {a b:Expr}{ta tb:TE}{pos:Pos}
def tB(t:TE):TT:=fun Z H Q=>t Z H fun x H1=>∃ c,x=.bl c/\Q c H1
variable {tA tB':TT}{rest:List Expr}
def tAnd(t u:TT):TT:=fun Z H Q=>t Z H fun c H1=>if c=true then u Z H1 Q else Q false H1
def tOr(t u:TT):TT:=fun Z H Q=>t Z H fun c H1=>if c=true then Q true H1 else u Z H1 Q
def tNot(t:TT):TT:=fun Z H Q=>t Z H fun c H1=>Q (!c) H1
theorem jAb(ha:PT X a tA):PW X (.BoolOp .And [a] pos) tA:=by
 intro wh U s Z H Q I h;refine isTrue_and (thn (ha U s Z H Q I h) fun c s1 e=>?_)
 cases c with
 | true=>exact isTrue_and_nil e
 | false=>exact e
theorem jDy(ha:PT X a tA):PW X (.BoolOp .Or [a] pos) tA:=by
 intro wh U s Z H Q I h;refine isTrue_or (thn (ha U s Z H Q I h) fun c s1 e=>?_)
 cases c with
 | false=>exact isTrue_or_nil e
 | true=>exact e
theorem jDx(ha:PT X a tA)(hb:PW X (.BoolOp .And (b::rest) pos) tB'):PW X (.BoolOp .And (a::b::rest) pos) (tAnd tA tB'):=by
 intro wh U s Z H Q I h;refine isTrue_and (thn (ha U s Z H _ I h) fun c s1 hzz=>?_);obtain⟨H1,I1,q1⟩:=hzz
 cases c with
 | true=>exact hb wh U s1 Z H1 Q I1 q1
 | false=>exact⟨H1,I1,q1⟩
theorem jGl(ha:PT X a tA)(hb:PW X (.BoolOp .Or (b::rest) pos) tB'):PW X (.BoolOp .Or (a::b::rest) pos) (tOr tA tB'):=by
 intro wh U s Z H Q I h;refine isTrue_or (thn (ha U s Z H _ I h) fun c s1 hzz=>?_);obtain⟨H1,I1,q1⟩:=hzz
 cases c with
 | true=>exact⟨H1,I1,q1⟩
 | false=>exact hb wh U s1 Z H1 Q I1 q1
theorem jDv(ha:PT X a tA):PT X (.UnaryOp .Not a pos) (tNot tA):=by
 intro U s Z H Q I h;exact isTrue_not (thn (ha U s Z H (fun c H1=>Q (!c) H1) I h) fun c s1 z=>z.casesOn fun H1 I1 q1=>⟨H1,I1,q1⟩)
def jGv(ta tb:TE):TE:=fun Z H Q=>ta Z H fun x H1=>∃ c,x=.bl c/\if c=true then tb Z H1 Q else Q (.bl false) H1
def tOrV(ta tb:TE):TE:=fun Z H Q=>ta Z H fun x H1=>∃ c,x=.bl c/\if c=true then Q (.bl true) H1 else tb Z H1 Q
def jG1(ta:TE):TE:=fun Z H Q=>ta Z H fun x H1=>∃ c,x=.bl c/\Q (.bl (!c)) H1
theorem jDk{op}{t:TE}(h:PE X a t):PE X (.BoolOp op [a] pos) t:=fun U s Z H Q I hw=>BoolOp_one (h U s Z H Q I hw)
theorem jDg(ha:PE X a ta)(hb:PE X (.BoolOp .And (b::rest) pos) tb):PE X (.BoolOp .And (a::b::rest) pos) (jGv ta tb):=by
 intro U s Z H Q I h;refine BoolOp_and (thn (ha U s Z H _ I h) fun v s1 hzz=>?_);obtain⟨x,H1,I1,r1,q1⟩:=hzz;obtain⟨c,rfl,q1⟩:=q1;cases r1;refine wpAny_truthy_bool ?_
 cases c with
 | true=>exact hb U s1 Z H1 Q I1 q1
 | false=>exact⟨.bl false,H1,I1,rfl,q1⟩
theorem jGg(ha:PE X a ta)(hb:PE X (.BoolOp .Or (b::rest) pos) tb):PE X (.BoolOp .Or (a::b::rest) pos) (tOrV ta tb):=by
 intro U s Z H Q I h;refine BoolOp_or (thn (ha U s Z H _ I h) fun v s1 hzz=>?_);obtain⟨x,H1,I1,r1,q1⟩:=hzz;obtain⟨c,rfl,q1⟩:=q1;cases r1;refine wpAny_truthy_bool ?_
 cases c with
 | false=>exact hb U s1 Z H1 Q I1 q1
 | true=>exact⟨.bl true,H1,I1,rfl,q1⟩
theorem jDj(ha:PE X a ta):PE X (.UnaryOp .Not a pos) (jG1 ta):=by
 intro U s Z H Q I h;refine UnaryOp_ (thn (ha U s Z H _ I h) fun v s1 hzz=>?_);obtain⟨x,H1,I1,r1,q1⟩:=hzz;obtain⟨c,rfl,q1⟩:=q1;cases r1;exact not_of (wpAny_truthy_bool ⟨.bl (!c),H1,I1,rfl,q1⟩)
def tIf(t:TT)(ta tb:TE):TE:=fun Z H Q=>t Z H fun c H1=>if c=true then ta Z H1 Q else tb Z H1 Q
theorem jww{c:Expr}(hc:PT X c tA)(ha:PE X a ta)(hb:PE X b tb):PE X (.IfExp c a b pos) (tIf tA ta tb):=by
 intro U s Z H Q I h;refine wpAny_IfExp (thn (hc U s Z H _ I h) fun d s1 hzz=>?_);obtain⟨H1,I1,q1⟩:=hzz
 cases d with
 | true=>exact ha U s1 Z H1 Q I1 q1
 | false=>exact hb U s1 Z H1 Q I1 q1
end
def SqL(K:W.Frag)(H:Hp)(a:Addr)(xs:List V):Prop :=
 Rd H a (.lst xs) \/
  ∃ (o:Obj) (its:Array Value) (n:Nat),K.lookup a=some o/\o.cls=.type "list"/\o.dict=none/\o.data=.seq its n/\its.size<=sizeLine/\Vals xs its.toList
def SqT(K:W.Frag)(H:Hp)(a:Addr)(xs:List V):Prop :=
 Rd H a (.tup xs) \/
  ∃ (o:Obj) (its:Array Value) (n:Nat),K.lookup a=some o/\o.cls=.type "tuple"/\o.data=.seq its n/\its.size<=sizeLine/\Vals xs its.toList
noncomputable def absV:Value->Option V
 | .none=>some .non
 | .bool b=>some (.bl b)
 | .int i _=>some (.int i)
 | .str x _=>some (.str x)
 | .ref a=>some (.ref a)
 | .type n=>some (.ty n)
 | _=>none
theorem RelV.abs{x:V}{u:Value}(r:RelV x u):absV u=some x:=by
 cases x with
 | non=>cases r;rfl
 | bl _=>cases r;rfl
 | int _=>obtain⟨t,rfl⟩:=r;rfl
 | str _=>obtain⟨t,rfl⟩:=r;rfl
 | ref _=>cases r;rfl
 | ty _=>cases r;rfl
theorem RelV.inj{x y:V}{u:Value}(r:RelV x u)(q:RelV y u):x=y:=zbz (r.abs.symm.trans q.abs)
theorem Vals.inj:∀ {xs ys:List V} {us:List Value},Vals xs us->Vals ys us->xs=ys
 | _,_,_,.nil,.nil=>rfl
 | _,_,_,.cons r t,.cons r' t'=>by rw[r.inj r',Vals.inj t t']
section
variable {X:Cx}{U:qd}{Z:St}{H:Hp}{s:Shared}{a:Addr}{xs ys:List V}
theorem SqL.of{K:W.Frag}(h:H a=some (.lst xs)):SqL K H a xs:=.inl (.inl h)
theorem SqT.of{K:W.Frag}(h:H a=some (.tup xs)):SqT K H a xs:=.inl (.inl h)
theorem Inv.list(I:Inv X U Z H s)(h:SqL X.K H a xs):∃ its:List Value,Vals xs its/\PlainL s.heap a its.toArray/\xs.length<=sizeLine:=by
 rcases h with h|⟨o,its,n,hk,hc,hd,hs,hz,r⟩
 ·obtain⟨z,its,n,r,e⟩:=h.ok I.hok;exact⟨its,r,⟨_,n,e,rfl,rfl,rfl⟩,z⟩
 ·refine⟨its.toList,r,⟨o,n,I.kIn a o hk,hc,hd,by simpa using hs⟩,?_⟩;have e:=r.length;simp only[Array.length_toList] at e;omega
theorem Inv.tuple(I:Inv X U Z H s)(h:SqT X.K H a xs):∃ its:List Value,Vals xs its/\IsTup s.heap a its.toArray/\xs.length<=sizeLine:=by
 rcases h with h|⟨o,its,n,hk,hc,hs,hz,r⟩
 ·obtain⟨z,its,r,p⟩:=h.ok I.hok;exact⟨its,r,p,z⟩
 ·refine⟨its.toList,r,⟨o,I.kIn a o hk,hc,n,by simpa using hs⟩,?_⟩;have e:=r.length;simp only[Array.length_toList] at e;omega
theorem Inv.list_inj(I:Inv X U Z H s)(h:SqL X.K H a xs)(h':SqL X.K H a ys):xs=ys:=by
 obtain⟨its,r,⟨o,n,e,_,_,d⟩,_⟩:=I.list h;obtain⟨its',r',⟨o',n',e',_,_,d'⟩,_⟩:=I.list h';rw[e] at e';cases e'
 rw[d] at d';injection d' with d1 _
 have:its=its':=by simpa using congrArg Array.toList d1
 subst this;exact r.inj r'
theorem Inv.tuple_inj(I:Inv X U Z H s)(h:SqT X.K H a xs)(h':SqT X.K H a ys):xs=ys:=by
 obtain⟨its,r,⟨o,e,_,n,d⟩,_⟩:=I.tuple h;obtain⟨its',r',⟨o',e',_,n',d'⟩,_⟩:=I.tuple h';rw[e] at e';cases e'
 rw[d] at d';injection d' with d1 _
 have:its=its':=by simpa using congrArg Array.toList d1
 subst this;exact r.inj r'
end
noncomputable abbrev Cx.wish(X:Cx)(E:qe):Cx:={ X with xe:=E }
noncomputable abbrev Cx.nox(X:Cx):Cx:=X.wish fun _ _=>False
theorem Cx.Ok.wish{X:Cx}(ok:X.Ok)(E:qe):(X.wish E).Ok :=
 ⟨ok.mod,ok.kind,ok.glob,ok.blt,ok.above,ok.inj,ok.has,ok.cab,ok.hd,ok.frames,ok.stk,ok.exf,ok.bs,ok.bsz,ok.noex,ok.exfs,ok.funs,ok.frf⟩
theorem Cx.Ok.unwish{X:Cx}{E:qe}(ok:(X.wish E).Ok):X.Ok :=
 ⟨ok.mod,ok.kind,ok.glob,ok.blt,ok.above,ok.inj,ok.has,ok.cab,ok.hd,ok.frames,ok.stk,ok.exf,ok.bs,ok.bsz,ok.noex,ok.exfs,ok.funs,ok.frf⟩
section
variable {X:Cx}{U:qd}{Z:St}{H:Hp}{s:Shared}{E:qe}
theorem Inv.wish(I:Inv X U Z H s)(E:qe):Inv (X.wish E) U Z H s:=⟨I.ok.wish E,I.os,I.bare,I.base,I.loc,I.cell,I.free,I.freeC,I.pin,I.hok,I.len⟩
theorem Inv.unwish(I:Inv (X.wish E) U Z H s):Inv X U Z H s:=⟨I.ok.unwish,I.os,I.bare,I.base,I.loc,I.cell,I.free,I.freeC,I.pin,I.hok,I.len⟩
theorem SP.unwish{D:Ends}{f:Flow}{s':Shared}(h:SP (X.wish E) U D f s'):SP X U D f s':=by
 cases f with
 | next=>obtain⟨Z',H',I,q⟩:=h;exact⟨Z',H',I.unwish,q⟩
 | brk=>obtain⟨Z',H',I,q⟩:=h;exact⟨Z',H',I.unwish,q⟩
 | cont=>obtain⟨Z',H',I,q⟩:=h;exact⟨Z',H',I.unwish,q⟩
 | ret u=>obtain⟨v,Z',H',I,r,q⟩:=h;exact⟨v,Z',H',I.unwish,r,q⟩
theorem PSs.nox{st:List Stmt}{t:TS}(h:PSs X.nox st t):PSs X st t:=fun U s Z H D I hw =>
 wpAny_mono (h U s Z H D (I.wish _) hw) (fun _ _ q=>q.unwish) fun _ _ z=>False.elim z
end
section
variable {X:Cx}{st:Stmt}{rest:List Stmt}{t u:TS}{e:Expr}{te:TE}{pos:Pos}
def jG0:TS:=fun D Z H=>D.nx Z H
def tSeq(t u:TS):TS:=fun D Z H=>t { D with nx:=u D } Z H
theorem juw:PSs X [] jG0:=fun _ _ Z H _ I h=>wpAny_execs_nil ⟨Z,H,I,h⟩
theorem jq5(h1:PS X st t)(h2:PSs X rest u):PSs X (st::rest) (tSeq t u):=by
 intro U s Z H D I h;refine wpAny_execs_cons (thn (h1 U s Z H { D with nx:=u D } I h) fun f s1 q=>?_)
 cases f with
 | next =>
  obtain⟨Z',H',I',q⟩:=q;exact h2 U s1 Z' H' D I' q
 | ret v=>exact q
 | brk=>exact q
 | cont=>exact q
theorem jpz(h1:PS X st t):PSs X [st] t:=by
 intro U s Z H D I h;refine wpAny_execs_cons (thn (h1 U s Z H D I h) fun f s1 q=>?_)
 cases f with
 | next=>exact wpAny_execs_nil q
 | ret v=>exact q
 | brk=>exact q
 | cont=>exact q
def jGy:TS:=fun D Z H=>D.ct Z H
theorem jpy:PS X (.Continue pos) jGy:=fun _ _ Z H _ I h=>wpAny_Continue ⟨Z,H,I,h⟩
theorem Inv.quiet{U:qd}{Z:St}{H:Hp}{s:Shared}(I:Inv X U Z H s):interactive X.env=false:=by simp[interactive,I.ok.kind]
def jGz(te:TE):TS:=fun D Z H=>te Z H fun _ H1=>D.nx Z H1
theorem jm2(he:PE X e te)(hs:autoParam (swapsWith e none pos.line X.env=pure false) zau2._auto_1):PS X (.Expr e pos) (jGz te):=by
 intro U s Z H D I h;exact wpAny_Expr_any (thn (he U s Z H _ I h) fun v s1 ⟨x,H1,I1,r1,q1⟩=>⟨Z,H1,I1,q1⟩) I.quiet hs
def tRet(te:TE):TS:=fun D Z H=>te Z H D.rt
theorem juu(he:PE X e te):PS X (.Return (some e) pos) (tRet te):=by
 intro U s Z H D I h;exact wpAny_Return_some (thn (he U s Z H _ I h) fun v s1 ⟨x,H1,I1,r1,q1⟩=>⟨x,Z,H1,I1,r1,q1⟩)
def tIfS(c:TT)(t u:TS):TS:=fun D Z H=>c Z H fun b H1=>if b=true then t D Z H1 else u D Z H1
theorem jDt{c:Expr}{a b:List Stmt}{tc:TT}(hc:PT X c tc)(ha:PSs X a t)(hb:PSs X b u):PS X (.If c a b pos) (tIfS tc t u):=by
 intro U s Z H D I h;refine wpAny_If (thn (hc U s Z H _ I h) fun d s1 hzz=>?_);obtain⟨H1,I1,q1⟩:=hzz
 cases d with
 | true=>exact ha U s1 Z H1 D I1 q1
 | false=>exact hb U s1 Z H1 D I1 q1
end
abbrev TG:=V->St->Hp->(St->Hp->Prop)->Prop
abbrev TGs:=List V->St->Hp->(St->Hp->Prop)->Prop
def PG(X:Cx)(target:Expr)(t:TG):Prop :=
 ∀ (U:qd) (s:Shared) (Z:St) (H:Hp) (v:V) (u:Value) (Q:St->Hp->Prop),Inv X U Z H s->RelV v u->t v Z H Q ->
  wpAny (model X.prog X.w) X.A (assign target X.env u) (fun _ s'=>SN X U Q s') X.xe s
def PGs(X:Cx)(ts:List Expr)(t:TGs):Prop :=
 ∀ (U:qd) (s:Shared) (Z:St) (H:Hp) (vs:List V) (us:List Value) (Q:St->Hp->Prop),Inv X U Z H s->Vals vs us->t vs Z H Q ->
  wpAny (model X.prog X.w) X.A (assignInOrder ((assignEach ts X.env).map (·.2)) us) (fun _ s'=>SN X U Q s') X.xe s
abbrev TSet:=V->V->V->Hp->(Hp->Prop)->Prop
def PSet(X:Cx)(t:TSet):Prop :=
 ∀ (U:qd) (s:Shared) (Z:St) (H:Hp) (o i v:V) (ov iv u:Value) (Q:Hp->Prop),Inv X U Z H s->RelV o ov->RelV i iv->RelV v u->t o i v H Q ->
  wpAny (model X.prog X.w) X.A (setItem ov iv u) (fun _ s'=>∃ H',Inv X U Z H' s'/\Q H') X.xe s
section
variable {X:Cx}{pos:Pos}
def gName(i:Nat):TG:=fun v Z H Q=>Q (Z.set i (some v)) H
theorem jpx{i:Nat}{x:Str}(hN:X.N.Nodup)(hi:X.N[i]? = some x)(hx:Loc X.env.scope x)(hf:autoParam (qi X x) zau0._auto_1):PG X (.Name x pos) (gName i):=by
 intro U s Z H v u Q I r h;exact wpAny_assign_Name (jjw I hN hi hx r (fun s' I'=>⟨_,H,I',h⟩) hf)
def gNil:TGs:=fun vs Z H Q=>vs=[]/\Q Z H
def jFr(t:TG)(u:TGs):TGs:=fun vs Z H Q=>∃ v r,vs=v::r/\t v Z H fun Z' H'=>u r Z' H' Q
theorem jz6:PGs X [] gNil:=by
 intro U s Z H vs us Q I r h;obtain⟨e,h⟩:=h;subst e;cases r;exact assignInOrder_nil ⟨Z,H,I,h⟩
theorem jq4{e:Expr}{es:List Expr}{t:TG}{u:TGs}(h1:PG X e t)(h2:PGs X es u)
  (hs:autoParam ((assignEach (e::es) X.env).map (·.2)=assign e X.env::(assignEach es X.env).map (·.2)) zau2._auto_1):PGs X (e::es) (jFr t u):=by
 intro U s Z H vs us Q I r h;obtain⟨v,vr,e1,h⟩:=h;subst e1
 cases r with
 | cons r rr =>
  rw[hs];refine assignInOrder_cons (thn (h1 U s Z H _ _ _ I r h) fun _ s1 hzz=>?_);obtain⟨Z1,H1,I1,q1⟩:=hzz;exact h2 U s1 Z1 H1 _ _ Q I1 rr q1
def gTup(K:W.Frag)(n:Nat)(t:TGs):TG:=fun v Z H Q=>∃ a xs,v=.ref a/\SqT K H a xs/\xs.length=n/\t xs Z H Q
theorem jDp{es:List Expr}{k:Nat}{t:TGs}{n:Nat}(hc:X.calm=true)(h:PGs X es t)
  (hn:autoParam ((assignEach es X.env).length=n) zau2._auto_1) (hst:autoParam ((assignEach es X.env).findIdx? (·.1)=none) zau2._auto_1):PG X (.Tuple es k pos) (gTup X.K n t):=by
 intro U s Z H v u Q I r hw;obtain⟨a,xs,e1,hq,hl,hw⟩:=hw;subst e1;cases r;obtain⟨its,rv,ht,hz⟩:=I.tuple hq;refine assign_Tuple_tuple (I.ok.hd hc) ht (by simp[hn,<- hl,rv.length]) hst fun h' hx=>?_
 have I1:Inv X U Z H { s with heap:=h' }:=I.kept (t':=s.toks) fun b o e=>hx b o (zcb (zbw e)) e
 exact h U _ Z H xs _ Q I1 (by simpa using rv) hw
def gSub(to ti:TE)(t:TSet):TG:=fun v Z H Q=>to Z H fun o H1=>ti Z H1 fun i H2=>t o i v H2 fun H3=>Q Z H3
theorem jDo{o i:Expr}{to ti:TE}{t:TSet}(ho:PE X o to)(hi:PE X i ti)(hs:PSet X t)
  (ha:∀ v,assign (.Subscript o i pos) X.env v=(do
   let ov <- holding [v] (eval o X.env)
   let iv <- holding [v,ov] (eval i X.env)
   standAt pos
   holding [v,ov,iv] (setItem ov iv v)
   release [v,ov,iv] []):=by intro _;rfl):PG X (.Subscript o i pos) (gSub to ti t):=by
 intro U s Z H v u Q I r h;rw[ha];refine zay (wpAny_holding (thn (ho U s Z H _ I h) fun ov s1 hzz=>?_));obtain⟨x,H1,I1,r1,q1⟩:=hzz;refine zay (wpAny_holding (thn (hi U s1 Z H1 _ I1 q1) fun iv s2 hzz=>?_));obtain⟨y,H2,I2,r2,q2⟩:=hzz;refine zay (wpAny_standAt (zay (wpAny_holding (thn (hs U s2 Z H2 x y v ov iv u _ I2 r1 r2 r q2) fun _ s3 hzz=>?_))));obtain⟨H3,I3,q3⟩:=hzz;exact wpAny_release ⟨Z,H3,I3,q3⟩
def tAsg(te:TE)(g:TG):TS:=fun D Z H=>te Z H fun x H1=>g x Z H1 D.nx
theorem jyd{tg e:Expr}{te:TE}{g:TG}(he:PE X e te)(hg:PG X tg g)(hs:autoParam (swapsWithSole [tg] e pos.line X.env=pure false) zau2._auto_1)(hw:autoParam (swappedStores [tg] e X.env=pure none) zau2._auto_1)
  (h1:autoParam ((assignEach [tg] X.env).map (·.2)=[assign tg X.env]) zau2._auto_1):PS X (.Assign [tg] e pos) (tAsg te g):=by
 intro U s Z H D I h;refine wpAny_Assign_stores (thn (he U s Z H _ I h) fun v s1 hzz=>?_) hs hw;obtain⟨x,H1,I1,r1,q1⟩:=hzz;rw[h1];exact thn (hg U s1 Z H1 x v _ I1 r1 q1) fun _ s2 q=>q
theorem jok{i:Nat}{x:Str}{e:Expr}{te:TE}{pos':Pos}(hN:X.N.Nodup)(hi:X.N[i]? = some x)(hx:Loc X.env.scope x)(he:PE X e te)(hs:autoParam (swapsWith e (some (.Name x pos')) pos.line X.env=pure false) zau2._auto_1)(hf:autoParam (qi X x) zau0._auto_1) :
  PS X (.Assign [.Name x pos'] e pos) (tAsg te (gName i)):=by
 intro U s Z H D I h;refine wpAny_Assign_Name (thn (he U s Z H _ I h) fun v s1 hzz=>?_) hs;obtain⟨y,H1,I1,r1,q1⟩:=hzz;exact jjw I1 hN hi hx r1 (fun s2 I2=>⟨_,H1,I2,q1⟩) hf
def tPar(i j:Nat)(ta:TA):TS:=fun D Z H=>ta Z H fun vs H1=>∃ v w,vs=[v,w]/\D.nx ((Z.set i (some v)).set j (some w)) H1
theorem jDu{i j:Nat}{x y:Str}{a b:Expr}{ta:TA}{px py pt:Pos}{kt k2 pt2}(hc:X.calm=true)(hN:X.N.Nodup)(hi:X.N[i]? = some x)(hj:X.N[j]? = some y)(hij:i≠j)
  (hx:X.env.scope.names.lookup x=some .local) (hy:X.env.scope.names.lookup y=some .local) (ha:PA X [a,b] ta)
  (hw:swappedStores [.Tuple [.Name x px,.Name y py] kt pt] (.Tuple [a,b] k2 pt2) X.env=pure (some [x,y]))
  (hs:autoParam (swapsWithSole [.Tuple [.Name x px,.Name y py] kt pt] (.Tuple [a,b] k2 pt2) pos.line X.env=pure false) zau2._auto_1) :
  PS X (.Assign [.Tuple [.Name x px,.Name y py] kt pt] (.Tuple [a,b] k2 pt2) pos) (tPar i j ta):=by
 intro U s Z H D I h;rw[exec_Assign_arm];refine zay (wpAny_standAt ?_);rw[hs];refine zay (zab ?_);rw[if_neg (by decide)];refine zay (Tuple_ (thn (ha _ U s Z H _ I h) fun us s1 hzz=>?_));obtain⟨vs,H1,I1,r1,q1⟩:=hzz;obtain⟨v,w,e1,q1⟩:=q1;subst e1;obtain⟨u1,u2,rfl,rv,rw'⟩:∃ u1 u2,us=[u1,u2]/\RelV v u1/\RelV w u2:=by
  cases r1 with
  | cons p q =>
   cases q with
   | cons p' q' =>
    cases q';exact⟨_,_,rfl,p,p'⟩
 refine wpAny_newObj_type ?_ (by show 2<=sizeLine;decide);have I2:Inv X U Z H1 { s1 with heap:=s1.heap.push { cls:=.type "tuple",data:=.seq [u1,u2].toArray } }:=I1.kept (t':=s1.toks) fun b o e=>zaz _ e
 rw[hw];refine zay (zab ?_);show wpAny (model X.prog X.w) X.A (do rule "assign.swapped-stores";let items <- unpackItems (.ref s1.heap.objs.size) 2 none;assignInOrder [fun v=>bindName X.env y v,fun v=>bindName X.env x v] items.reverse;pure Flow.next) _ _ _;refine zay (wpAny_rule (zay (unpackItems_tuple (items:=#[u1,u2]) (I.ok.hd hc) (IsTup.new s1.heap _) fun h' hx'=>?_)));have I3:=I2.kept (h':=h') (t':=s1.toks) fun b o e=>hx' b o (zcb (zbw e)) e
 show wpAny _ _ (assignInOrder [fun v=>bindName X.env y v,fun v=>bindName X.env x v] [u2,u1] >>= fun _=>pure Flow.next) _ _ _;refine zay (assignInOrder_cons (wpAny_bindName (jjw I3 hN hj (.inl hy) rw' (fun s2 I4=>?_) (.inr hy))));refine assignInOrder_cons (wpAny_bindName (jjw I4 hN hi (.inl hx) rv (fun s3 I5=>assignInOrder_nil (zab ?_)) (.inr hx)));rw[List.set_comm _ _ (Ne.symm hij)] at I5;exact⟨_,H1,I5,q1⟩
end
section
variable {X:Cx}{pos:Pos}
def jEn(c:TT)(tb:TS):TS:=fun D Z H=>∃ W:Nat->St->Hp->Prop,(∃ m,W m Z H)/\∀ m Z H,W m Z H ->
 c Z H fun b H1=>if b=true then ∃ N:St->Hp->Prop,(∀ Z' H',N Z' H'->∃ m',m'<m/\W m' Z' H')/\tb { D with nx:=N,ct:=N,bk:=D.nx } Z H1 else D.nx Z H1
theorem jw2{c:Expr}{body:List Stmt}{tc:TT}{tb:TS}(hp:PassesOwn (model X.prog X.w) X.A X.env X.xe)(hc:PT X c tc)(hb:PSs X body tb):PS X (.While c body [] pos) (jEn tc tb):=by
 intro U s Z H D I h;obtain⟨W,⟨m0,w0⟩,turn⟩:=h;refine wpAny_While (codeAny_whileLoop (fun n s'=>∃ Z' H',Inv X U Z' H' s'/\W n Z' H') ?_ m0 ⟨Z,H,I,w0⟩);rintro n s1 ⟨Z1,H1,I1,w1⟩;refine wpAny_passesOwn hp (thn (hc U s1 Z1 H1 _ I1 (turn n Z1 H1 w1)) fun b s2 hzz=>?_);obtain⟨H2,I2,q2⟩:=hzz
 cases b with
 | true =>
  obtain⟨N,hN,q2⟩:=q2;rw[if_pos rfl];refine wpAny_passesOwn hp (thn (hb U s2 Z1 H2 _ I2 q2) fun f s3 q3=>?_)
  cases f with
  | next =>
   obtain⟨Z3,H3,I3,n3⟩:=q3;obtain⟨m',hm,w3⟩:=hN Z3 H3 n3;exact⟨m',hm,Z3,H3,I3,w3⟩
  | cont =>
   obtain⟨Z3,H3,I3,n3⟩:=q3;obtain⟨m',hm,w3⟩:=hN Z3 H3 n3;exact⟨m',hm,Z3,H3,I3,w3⟩
  | brk=>exact q3
  | ret v=>exact q3
 | false =>
  rw[if_neg Bool.false_ne_true];exact wpAny_execs_nil ⟨Z1,H2,I2,q2⟩
end
structure It where
 go:Nat->Hp->Prop
 yld:Nat->Hp->V->Hp->Prop
 stop:Nat->Hp->Prop
def FpOk(X:Cx)(U:qd)(H:Hp)(b:Addr):Prop :=
 H b=none/\b≠X.env.locals/\b∉X.fs/\(b∈X.ex\/X.s₀.heap.objs.size<=b)/\(∀ x c,X.env.cells.lookup x=some c->c≠b)/\∀ p∈X.pn++U,p.1≠b
theorem Inv.fpOk{X:Cx}{U:qd}{Z:St}{H H':Hp}{s:Shared}{b:Addr}(I:Inv X U Z H s)(hb:s.heap.objs.size<=b)(hn:H' b=none):FpOk X U H' b:=by
 refine⟨hn,Nat.ne_of_gt (zcy I.lt hb),I.nofs hb,.inr (zez I.sz hb),fun x c e z=>?_,fun p hp z=>?_⟩
 ·obtain⟨v,q⟩:=I.cell x c e;exact absurd (zcy q.lt (by rw[z];exact hb)) (Nat.lt_irrefl _)
 ·exact absurd (zcy (zbw (I.pin p hp).1) (by rw[z];exact hb)) (Nat.lt_irrefl _)
inductive TIt(X:Cx)(U:qd)(Z:St)(Jq:It)(fp:List Addr)(tn:Nat->Heap->Prop)(i:Nat)(H:Hp)(u:Value)(s2:Shared):Prop
 | mk (x:V) (H':Hp) (h1:Inv X U Z H' s2) (h2:RelV x u) (h3:Jq.yld i H x H') (h4:tn (i+1) s2.heap) (h5:∀ b∈fp,H' b=none)
structure Turn(P:Program)(w:World)(K:W.Frag)(tg:Expr)(Jq:It)(fp:List Addr)(it:Addr)(tn:Nat->Heap->Prop):Prop where
 mem:it∈fp
 obj:∀ i h,tn i h->∀ b∈fp,∃ o,h.get? b=some o/\∀ v,o.data≠.cell v
 keep:∀ i h h',tn i h->(∀ b∈fp,∀ o,h.get? b=some o->h'.get? b=some o)->tn i h'
 item:∀ (X:Cx),X.prog=P->X.w=w->X.K=K->X.calm=true->∀ (i:Nat) (U:qd) (s:Shared) (Z:St) (H:Hp) (E:qe),Inv X U Z H s->(∀ b∈fp,FpOk X U H b)->tn i s.heap->Jq.go i H ->
  wpAny (model P w) X.A (pyNext (.ref it)) (fun r s1=>∃ u,r=some u /\
   wpAny (model P w) X.A (letOwnedTupleGo tg (.ref it) u) (fun _ s2=>TIt X U Z Jq fp tn i H u s2) E s1) E s
 done:∀ (X:Cx),X.prog=P->X.w=w->X.K=K->X.calm=true->∀ (i:Nat) (U:qd) (s:Shared) (Z:St) (H:Hp) (E:qe),Inv X U Z H s->(∀ b∈fp,FpOk X U H b)->tn i s.heap->Jq.stop i H ->
  wpAny (model P w) X.A (pyNext (.ref it)) (fun r s1=>r=none/\Inv X U Z H s1) E s
 self:∀ (A:Around) (i:Nat) (s:Shared) (Q:qe) (E:qe),tn i s.heap->Q (.ref it) s->wpAny (model P w) A (pyIter (.ref it)) Q E s
abbrev TI:=St->Hp->(It->Hp->Prop)->Prop
inductive PIE(X:Cx)(U:qd)(Z:St)(tg:Expr)(R:It->Hp->Prop)(itv:Value)(s2:Shared):Prop
 | mk (it:Addr) (fp:List Addr) (tn:Nat->Heap->Prop) (Jq:It) (H':Hp) (h1:itv=.ref it) (h2:Inv X U Z H' s2) (h3:Turn X.prog X.w X.K tg Jq fp it tn) (h4:tn 0 s2.heap) (h5:∀ b∈fp,FpOk X U H' b) (h6:R Jq H')
def PI(X:Cx)(tg iter:Expr)(wi:TI):Prop :=
 ∀ (U:qd) (s:Shared) (Z:St) (H:Hp) (R:It->Hp->Prop),Inv X U Z H s->wi Z H R ->
  wpAny (model X.prog X.w) X.A (eval iter X.env) (fun v s1=>wpAny (model X.prog X.w) X.A (pyIter v) (PIE X U Z tg R) X.xe s1) X.xe s
theorem jy6{M:Model}{A:Around}{E:qe}{s:Shared}{tg:Expr}{it:Addr}{u:Value}{o:Obj}{n:String}{vs:Array Value}{Q:Unit->Shared->Prop}(ho:s.heap.get? it=some o)(hc:o.cls=.type n)(hd:o.data=.fields vs)
    (hn:["enumerate","zip","dict_itemiterator","dict_reverseitemiterator","odict_iterator","itertools.zip_longest","itertools.pairwise"].contains n=false) (hQ:Q () s):wpAny M A (letOwnedTupleGo tg (.ref it) u) Q E s:=by
  unfold letOwnedTupleGo;cases tg<;>first
    | exact zab hQ
    | (cases u<;>first
        | exact zab hQ
        | (refine zay (wpAny_load ho ?_)
           rw[hc,hd];show wpAny M A (if (["enumerate","zip","dict_itemiterator","dict_reverseitemiterator","odict_iterator","itertools.zip_longest","itertools.pairwise"].contains n&&vs[0]? == some (rawInt _))=true then _ else _) Q E s;rw[if_neg (by intro h;rw[hn,Bool.false_and] at h;cases h)];exact zab hQ))
noncomputable def Itl(K:W.Frag)(a:Addr):It :=
 ⟨fun i H=>∃ xs x,SqL K H a xs/\xs[i]? = some x,fun i H x H'=>H'=H/\∀ xs,SqL K H a xs->xs[i]? = some x,fun i H=>∃ xs,SqL K H a xs/\xs.length<=i⟩
noncomputable def Itt(K:W.Frag)(a:Addr):It :=
 ⟨fun i H=>∃ xs x,SqT K H a xs/\xs[i]? = some x,fun i H x H'=>H'=H/\∀ xs,SqT K H a xs->xs[i]? = some x,fun i H=>∃ xs,SqT K H a xs/\xs.length<=i⟩
theorem jvb{P:Program}{w:World}{K:W.Frag}{tg:Expr}(a it:Addr):Turn P w K tg (Itl K a) [it] it (fun i h=>h.IsListIter it a i) where
 mem:=by simp
 obj:=fun i h st b hb=>by
  have e:b=it:=by simpa using hb
  subst e;obtain⟨o,e,c,d⟩:=st;exact⟨o,e,fun v z=>by rw[d] at z;cases z⟩
 keep:=fun i h h' st k=>st.at fun o e=>k it (by simp) o e
 item:=by
  intro X hP hw hK hc i U s Z H E I hf st hg;subst hP hw hK;obtain⟨xs,x,hq,hx⟩:=hg;obtain⟨its,rv,p,hz⟩:=I.list hq;obtain⟨u,hu,ru⟩:=rv.get hx;obtain⟨f0,f1,f2,f3,f4,f5⟩:=hf it (by simp);refine wpAny_pyNext_list_item st p.isList (x:=u) (by simpa using hu) fun h' st' sb=>?_
  have I1:Inv X U Z H { s with heap:=h' }:=I.turned (t':=s.toks) (fun b o hb e=>(sb.2 b hb).trans e) f0 f1 f3 f4 f5;obtain⟨o,e,c,d⟩:=id st';exact⟨u,rfl,jy6 (s:={ s with heap:=h' }) e c d (by decide) ⟨x,H,I1,ru,⟨rfl,fun ys hy=>by rw[I.list_inj hy hq];exact hx⟩,st',fun b hb=>(hf b hb).1⟩⟩
 done:=by
  intro X hP hw hK hc i U s Z H E I hf st hg;subst hP hw hK;obtain⟨xs,hq,hx⟩:=hg;obtain⟨its,rv,p,hz⟩:=I.list hq;obtain⟨f0,f1,f2,f3,f4,f5⟩:=hf it (by simp);have hl:=rv.length;exact wpAny_pyNext_list_end (I.ok.hd hc) st p.isList (by simp;omega) fun h' eb=>⟨rfl,I.turned (t':=s.toks) (fun b o hb e=>eb b o hb e) f0 f1 f3 f4 f5⟩
 self:=fun _ _ _ _ _ st h=>wpAny_pyIter_listiter st h
theorem jsf{P:Program}{w:World}{K:W.Frag}{tg:Expr}(a it:Addr):Turn P w K tg (Itt K a) [it] it (fun i h=>h.IsTupleIter it a i) where
 mem:=by simp
 obj:=fun i h st b hb=>by
  have e:b=it:=by simpa using hb
  subst e;obtain⟨o,e,c,d⟩:=st;exact⟨o,e,fun v z=>by rw[d] at z;cases z⟩
 keep:=fun i h h' st k=>st.at fun o e=>k it (by simp) o e
 item:=by
  intro X hP hw hK hc i U s Z H E I hf st hg;subst hP hw hK;obtain⟨xs,x,hq,hx⟩:=hg;obtain⟨its,rv,p,hz⟩:=I.tuple hq;obtain⟨u,hu,ru⟩:=rv.get hx;obtain⟨f0,f1,f2,f3,f4,f5⟩:=hf it (by simp);refine wpAny_pyNext_tuple_item st (show s.heap.IsTuple a its.toArray from p) (x:=u) (by simpa using hu) fun h' st' sb=>?_
  have I1:Inv X U Z H { s with heap:=h' }:=I.turned (t':=s.toks) (fun b o hb e=>(sb.2 b hb).trans e) f0 f1 f3 f4 f5;obtain⟨o,e,c,d⟩:=id st';exact⟨u,rfl,jy6 (s:={ s with heap:=h' }) e c d (by decide) ⟨x,H,I1,ru,⟨rfl,fun ys hy=>by rw[I.tuple_inj hy hq];exact hx⟩,st',fun b hb=>(hf b hb).1⟩⟩
 done:=by
  intro X hP hw hK hc i U s Z H E I hf st hg;subst hP hw hK;obtain⟨xs,hq,hx⟩:=hg;obtain⟨its,rv,p,hz⟩:=I.tuple hq;obtain⟨f0,f1,f2,f3,f4,f5⟩:=hf it (by simp);have hl:=rv.length;exact wpAny_pyNext_tuple_end (I.ok.hd hc) st (show s.heap.IsTuple a its.toArray from p) (by simp;omega) fun h' eb=>⟨rfl,I.turned (t':=s.toks) (fun b o hb e=>eb b o hb e) f0 f1 f3 f4 f5⟩
 self:=fun _ _ _ _ _ st h=>wpAny_pyIter_tupleiter st h
section
variable {X:Cx}{tg:Expr}
def tFor(wi:TI)(g:TG)(tb:TS):TS:=fun D Z H=>wi Z H fun Jq H1=>∃ W:Nat->Nat->St->Hp->Prop,(∃ m,W 0 m Z H1)/\∀ i m Z H,W i m Z H ->
 (Jq.stop i H/\D.nx Z H)\/(Jq.go i H/\∃ N:St->Hp->Prop,(∀ Z' H',N Z' H'->∃ m',m'<m/\W (i+1) m' Z' H')/\∀ x H',Jq.yld i H x H'->g x Z H' fun Z2 H2=>tb { D with nx:=N,ct:=N,bk:=D.nx } Z2 H2)
noncomputable def jk1(fp:List Addr)(h:Heap):qd:=fp.filterMap fun b=>(h.get? b).map fun o=>(b,o)
theorem jco{fp:List Addr}{h:Heap}{b:Addr}{o:Obj}(hb:b∈fp)(e:h.get? b=some o):(b,o)∈jk1 fp h:=List.mem_filterMap.mpr ⟨b,hb,by rw[e];rfl⟩
theorem juf{fp:List Addr}{h:Heap}{p:Addr×Obj}(hp:p∈jk1 fp h):p.1∈fp/\h.get? p.1=some p.2:=by
 obtain⟨b,hb,e⟩:=List.mem_filterMap.mp hp
 cases q:h.get? b with
 | none=>rw[q] at e;cases e
 | some o =>
  rw[q] at e;have e':(b,o)=p:=zbz e;subst e';exact⟨hb,q⟩
theorem Inv.pinned{U:qd}{Z:St}{H:Hp}{s:Shared}{fp:List Addr}(I:Inv X U Z H s)(hf:∀ b∈fp,FpOk X U H b)(ho:∀ b∈fp,∃ o,s.heap.get? b=some o/\∀ v,o.data≠.cell v):Inv X (U++jk1 fp s.heap) Z H s :=
 I.pins_of fun p hp=>(zey.mp hp).elim (fun z=>I.pin p (zcz _ z)) fun z=>by
  obtain⟨hb,e⟩:=juf z;obtain⟨f0,f1,f2,_⟩:=hf p.1 hb;obtain⟨o,e',d⟩:=ho p.1 hb;rw[e] at e';cases e'
  exact⟨e,f0,f1,f2,d⟩
theorem Inv.unpinned{U pl:qd}{Z:St}{H:Hp}{s:Shared}(I:Inv X (U++pl) Z H s):Inv X U Z H s:=I.pins_of fun p hp=>I.pin p (zcz _ (zdy _ hp))
theorem jye{iter:Expr}{body:List Stmt}{wi:TI}{g:TG}{tb:TS}{pos:Pos}(hp:PassesOwn (model X.prog X.w) X.A X.env X.xe)(hc:X.calm=true)(hi:PI X tg iter wi)(hg:PG X tg g)(hb:PSs X body tb)
  (hs:autoParam (∀ x,foldedSetIterable iter X.env x=pure x) zau3._auto_1):PS X (.For tg iter body [] pos) (tFor wi g tb):=by
 intro U s Z H D I h;refine wpAny_For (thn (hi U s Z H _ I h) fun v s1 h1=>thn h1 fun itv s2 h2=>?_) hs;obtain⟨it,fp,tn,Jq,H2,e,I2,T,st2,f2,W,⟨m0,w0⟩,turn⟩:=h2;subst e;have stat:∀ {H':Hp},(∀ b∈fp,H' b=none)->∀ b∈fp,FpOk X U H' b:=fun hn b hb=>⟨hn b hb,(f2 b hb).2⟩
 refine codeAny_forLoop_any (fun n s'=>∃ i Z' H',Inv X U Z' H' s'/\tn i s'.heap/\(∀ b∈fp,H' b=none)/\W i n Z' H') ?_ m0 ⟨0,Z,H2,I2,st2,fun b hb=>(f2 b hb).1,w0⟩;rintro n s3 ⟨i,Z3,H3,I3,st3,fr3,w3⟩;rcases turn i n Z3 H3 w3 with ⟨stop,qn⟩|⟨go,N,hN,step⟩
 ·refine wpAny_passesOwn hp (thn (T.done X rfl rfl rfl hc i U s3 Z3 H3 X.xe I3 (stat fr3) st3 stop) fun r s4 hzz=>?_);obtain⟨hr,I4⟩:=hzz;subst hr;exact wpAny_execs_nil ⟨Z3,H3,I4,qn⟩
 ·refine wpAny_passesOwn hp (thn (T.item X rfl rfl rfl hc i U s3 Z3 H3 X.xe I3 (stat fr3) st3 go) fun r s4 hzz=>?_);obtain⟨u,hr,h4⟩:=hzz;subst hr;refine wpAny_passesOwn hp (thn h4 fun _ s5 hzz=>?_);obtain⟨x,H5,I5,r5,y5,st5,fr5⟩:=hzz;have I5':=I5.pinned (stat fr5) (T.obj _ _ st5);refine wpAny_passesOwn hp (thn (hg _ s5 Z3 H5 x u _ I5' r5 (step x H5 y5)) fun _ s6 hzz=>?_);obtain⟨Z6,H6,I6,q6⟩:=hzz;refine wpAny_passesOwn hp (thn (hb _ s6 Z6 H6 _ I6 q6) fun f s7 q7=>?_);have again:∀ {Z7:St} {H7:Hp},Inv X (U++jk1 fp s5.heap) Z7 H7 s7->N Z7 H7->∃ m,m<n/\∃ i Z' H',Inv X U Z' H' s7/\tn i s7.heap/\(∀ b∈fp,H' b=none)/\W i m Z' H':=fun {Z7 H7} I7 n7=>by
   obtain⟨m',hm,w7⟩:=hN Z7 H7 n7;refine⟨m',hm,i+1,Z7,H7,I7.unpinned,T.keep _ _ _ st5 fun b hb o e=>(I7.pin (b,o) (zcz _ (zcz _ (jco hb e)))).1,fun b hb=>?_,w7⟩;obtain⟨o,e,d⟩:=T.obj _ _ st5 b hb;exact (I7.pin (b,o) (zcz _ (zcz _ (jco hb e)))).2.1
  cases f with
  | next=>obtain⟨Z7,H7,I7,n7⟩:=q7;exact again I7 n7
  | cont=>obtain⟨Z7,H7,I7,n7⟩:=q7;exact again I7 n7
  | brk=>obtain⟨Z7,H7,I7,q7⟩:=q7;exact⟨Z7,H7,I7.unpinned,q7⟩
  | ret v=>obtain⟨x7,Z7,H7,I7,r7,q7⟩:=q7;exact⟨x7,Z7,H7,I7.unpinned,r7,q7⟩
end
abbrev R2:=V->V->Hp->VK->Prop
def OpR(X:Cx)(f:Value->Value->Sem Value)(r:R2):Prop :=
 ∀ (U:qd) (s:Shared) (Z:St) (H:Hp) (x y:V) (v u:Value) (Q:VK),Inv X U Z H s->RelV x v->RelV y u->r x y H Q ->
  wpAny (model X.prog X.w) X.A (f v u) (EP X U Z Q) X.xe s
def UnR(X:Cx)(f:Value->Sem Value)(r:V->Hp->VK->Prop):Prop :=
 ∀ (U:qd) (s:Shared) (Z:St) (H:Hp) (x:V) (v:Value) (Q:VK),Inv X U Z H s->RelV x v->r x H Q ->
  wpAny (model X.prog X.w) X.A (f v) (EP X U Z Q) X.xe s
def CallR(X:Cx)(f:Value)(r:List V->Hp->VK->Prop):Prop :=
 ∀ (U:qd) (s:Shared) (Z:St) (H:Hp) (xs:List V) (us:List Value) (Q:VK),Inv X U Z H s->Vals xs us->r xs H Q ->
  wpAny (model X.prog X.w) X.A (call f us) (EP X U Z Q) X.xe s
def TruR(X:Cx)(r:V->Hp->(Bool->Hp->Prop)->Prop):Prop :=
 ∀ (U:qd) (s:Shared) (Z:St) (H:Hp) (x:V) (v:Value) (Q:Bool->Hp->Prop),Inv X U Z H s->RelV x v->r x H Q ->
  wpAny (model X.prog X.w) X.A (truthy v) (TP X U Z Q) X.xe s
def tOp(r:R2)(ta tb:TE):TE:=fun Z H Q=>ta Z H fun x H1=>tb Z H1 fun y H2=>r x y H2 Q
def tUn(r:V->Hp->VK->Prop)(ta:TE):TE:=fun Z H Q=>ta Z H fun x H1=>r x H1 Q
def rI(C:Int->Int->Prop)(g:Int->Int->V):R2:=fun x y H Q=>∃ i j,x=.int i/\y=.int j/\C i j/\Q (g i j) H
def rI0(g:Int->Int->V):R2:=fun x y H Q=>∃ i j,x=.int i/\y=.int j/\Q (g i j) H
def rU(g:Int->V):V->Hp->VK->Prop:=fun x H Q=>∃ i,x=.int i/\Q (g i) H
section
variable {X:Cx}{a b:Expr}{ta tb:TE}{pos:Pos}
theorem binT(ha:PE X a ta)(hb:PE X b tb){U:qd}{s:Shared}{Z:St}{H:Hp}{R:V->V->Hp->Prop}(I:Inv X U Z H s)
  (h:ta Z H fun x H1=>tb Z H1 fun y H2=>R x y H2) {Q:qe} {f:Value->Value->Sem Value}
  (hf:∀ v u s2 x y H2,Inv X U Z H2 s2->RelV x v->RelV y u->R x y H2->wpAny (model X.prog X.w) X.A (f v u) Q X.xe s2) :
  wpAny (model X.prog X.w) X.A (eval a X.env) (fun v s₁=>wpAny (model X.prog X.w) X.A (eval b X.env) (fun u s₂=>wpAny (model X.prog X.w) X.A (f v u) Q X.xe s₂) X.xe s₁) X.xe s:=by
 refine thn (ha U s Z H _ I h) fun v s1 hzz=>?_
 obtain⟨x,H1,I1,r1,q1⟩:=hzz;refine thn (hb U s1 Z H1 _ I1 q1) fun u s2 hzz=>?_
 obtain⟨y,H2,I2,r2,q2⟩:=hzz;exact hf v u s2 x y H2 I2 r1 r2 q2
theorem jDl{op:Operator}{r:R2}(ho:OpR X (binaryOp op) r)(ha:PE X a ta)(hb:PE X b tb):PE X (.BinOp a op b pos) (tOp r ta tb):=by
 intro U s Z H Q I h;exact wpAny_BinOp (binT ha hb I h fun v u s2 x y H2 I2 rx ry q=>ho U s2 Z H2 x y v u Q I2 rx ry q)
theorem jGh{op:UnaryOp}{r:V->Hp->VK->Prop}(ho:UnR X (unaryOp op) r)(ha:PE X a ta):PE X (.UnaryOp op a pos) (tUn r ta):=by
 intro U s Z H Q I h;exact UnaryOp_ (thn (ha U s Z H _ I h) fun v s1 ⟨x,H1,I1,r1,q1⟩=>ho U s1 Z H1 x v Q I1 r1 q1)
theorem opI{f:Value->Value->Sem Value}{C:Int->Int->Prop}{g:Int->Int->Int}
  (rule:∀ (i j:Int) (t u:Tok) (s:Shared) (Q:qe) (E:qe),C i j->Q (.int (g i j) s.toks) { s with toks:=s.toks+1 }->wpAny (model X.prog X.w) X.A (f (.int i t) (.int j u)) Q E s) :
  OpR X f (rI C fun i j=>.int (g i j)):=by
 intro U s Z H x y v u Q I rx ry h;obtain⟨i,j,rfl,rfl,hc,q⟩:=h;obtain⟨t,rfl⟩:=rx;obtain⟨t',rfl⟩:=ry;exact rule i j t t' s _ _ hc ⟨.int (g i j),H,I.tok _,⟨_,rfl⟩,q⟩
theorem opI0{f:Value->Value->Sem Value}{g:Int->Int->Int}
  (rule:∀ (i j:Int) (t u:Tok) (s:Shared) (Q:qe) (E:qe),Q (.int (g i j) s.toks) { s with toks:=s.toks+1 }->wpAny (model X.prog X.w) X.A (f (.int i t) (.int j u)) Q E s) :
  OpR X f (rI0 fun i j=>.int (g i j)):=by
 intro U s Z H x y v u Q I rx ry h;obtain⟨i,j,rfl,rfl,q⟩:=h;obtain⟨t,rfl⟩:=rx;obtain⟨t',rfl⟩:=ry;exact rule i j t t' s _ _ ⟨.int (g i j),H,I.tok _,⟨_,rfl⟩,q⟩
theorem opB0{f:Value->Value->Sem Value}{g:Int->Int->Bool}
  (rule:∀ (i j:Int) (t u:Tok) (s:Shared) (Q:qe) (E:qe),Q (.bool (g i j)) s->wpAny (model X.prog X.w) X.A (f (.int i t) (.int j u)) Q E s) :
  OpR X f (rI0 fun i j=>.bl (g i j)):=by
 intro U s Z H x y v u Q I rx ry h;obtain⟨i,j,rfl,rfl,q⟩:=h;obtain⟨t,rfl⟩:=rx;obtain⟨t',rfl⟩:=ry;exact rule i j t t' s _ _ ⟨.bl (g i j),H,I,rfl,q⟩
def CPow(i j:Int):Prop:=0<=j/\j<=1000000/\i.natAbs<2 ^ 64
theorem op_add:OpR X (binaryOp .Add) (rI0 fun i j=>.int (i+j)):=opI0 fun _ _ _ _ _ _ _ q=>add_int q
theorem jkz:OpR X (binaryOp .Sub) (rI0 fun i j=>.int (i-j)):=opI0 fun _ _ _ _ _ _ _ q=>sub_int q
theorem jbw:OpR X (binaryOp .Mod) (rI (fun _ j=>0<j) fun i j=>.int (i % j)):=opI fun i j _ _ _ _ _ hc q=>by
 have h1:(0:Int)<j:=hc;exact mod_int' (by omega) (by rw[Int.fmod_eq_emod_of_nonneg i (by omega)];exact q)
theorem jum:OpR X (binaryOp .Pow) (rI CPow fun i j=>.int (i ^ j.toNat)):=opI fun _ _ _ _ _ _ _ hc q=>pow_int_small hc.1 hc.2.1 hc.2.2 q
theorem unI{f:Value->Sem Value}{g:Int->Int}
  (rule:∀ (i:Int) (t:Tok) (s:Shared) (Q:qe) (E:qe),Q (.int (g i) s.toks) { s with toks:=s.toks+1 }->wpAny (model X.prog X.w) X.A (f (.int i t)) Q E s) :
  UnR X f (rU fun i=>.int (g i)):=by
 intro U s Z H x v Q I rx h;obtain⟨i,rfl,q⟩:=h;obtain⟨t,rfl⟩:=rx;exact rule i t s _ _ ⟨.int (g i),H,I.tok _,⟨_,rfl⟩,q⟩
theorem jet:UnR X (unaryOp .USub) (rU fun i=>.int (-i)):=unI fun _ _ _ _ _ q=>neg_int q
end
section
variable {X:Cx}{a b c:Expr}{ta tb:TE}{pos:Pos}
theorem jxy{U:qd}{Z:St}{H:Hp}{s:Shared}{Q:VK}{k k':Bool}(I:Inv X U Z H s)(q:Q (.bl k) H)(e:k=k'):EP X U Z Q (.bool k') s:=by
 subst e;exact⟨.bl k,H,I,rfl,q⟩
theorem op_lt:OpR X (compareOp .Lt) (rI0 fun i j=>.bl (decide (i<j))):=opB0 fun _ _ _ _ _ _ _ q=>lt_int q
theorem op_gt:OpR X (compareOp .Gt) (rI0 fun i j=>.bl (decide (j<i))):=opB0 fun _ _ _ _ _ _ _ q=>gt_int q
theorem op_ge:OpR X (compareOp .GtE) (rI0 fun i j=>.bl (decide (j<=i))):=opB0 fun _ _ _ _ _ _ _ q=>ge_int q
theorem jul:OpR X (compareOp .Lt) (fun x y H Q=>∃ i j,x=.str i/\y=.str j/\Q (.bl (decide (i.cps.toList<j.cps.toList))) H):=by
 intro U s Z H x y v u Q I rx ry h;obtain⟨i,j,rfl,rfl,q⟩:=h;obtain⟨t,rfl⟩:=rx;obtain⟨t',rfl⟩:=ry;exact lt_str (jxy I q rfl)
theorem jlw:OpR X (compareOp .Is) (fun x y H Q=>y=.non/\Q (.bl (decide (x=.non))) H):=by
 intro U s Z H x y v u Q I rx ry h;obtain⟨rfl,q⟩:=h;cases ry;refine is_none_gen (jxy I q ?_);cases x<;>first
  | (cases rx;rfl)
  | (obtain⟨t,rfl⟩:=rx;rfl)
theorem OpR.or{f:Value->Value->Sem Value}{r r':R2}(h:OpR X f r)(h':OpR X f r'):OpR X f (fun x y H Q=>r x y H Q\/r' x y H Q):=by
 intro U s Z H x y v u Q I rx ry q;rcases q with q|q
 ·exact h U s Z H x y v u Q I rx ry q
 ·exact h' U s Z H x y v u Q I rx ry q
theorem ja3(b:Expr){op:CmpOp}(h:autoParam (op≠.In) zau1._auto_1)(h2:autoParam (op≠.NotIn) zau1._auto_1):behindInMarks op b=false:=by
 have e1:(op == CmpOp.In)=false:=by cases op<;>first|rfl|exact absurd rfl h
 have e2:(op == CmpOp.NotIn)=false:=by cases op<;>first|rfl|exact absurd rfl h2
 cases b<;>simp[behindInMarks,e1,e2]
theorem jz3{op:CmpOp}{r:R2}(ho:OpR X (compareOp op) r)(ha:PE X a ta)(hb:PE X b tb)(hm:behindInMarks op b=false):PE X (.Compare a [op] [b] pos) (tOp r ta tb):=by
 intro U s Z H Q I h;exact wpAny_Compare1 (binT ha hb I h fun v u s2 x y H2 I2 rx ry q=>ho U s2 Z H2 x y v u Q I2 rx ry q) hm
def jG3(t:TE):TT:=fun Z H Q=>t Z H fun x H'=>∃ k,x=.bl k/\Q k H'
theorem jux{op:CmpOp}{r:R2}(ho:OpR X (compareOp op) r)(ha:PE X a ta)(hb:PE X b tb)(hm:behindInMarks op b=false):PT X (.Compare a [op] [b] pos) (jG3 (tOp r ta tb)):=by
 intro U s Z H Q I h;refine wpAny_isTrue_Compare1 (thn (ha U s Z H _ I h) fun v s1 ⟨x,H1,I1,r1,q1⟩=>thn (hb U s1 Z H1 _ I1 q1) fun u s2 ⟨y,H2,I2,r2,q2⟩ =>
  thn (ho U s2 Z H2 x y v u _ I2 r1 r2 q2) fun c s3 ⟨z,H3,I3,r3,k,e,q3⟩=>?_) hm
 subst e;cases r3;exact wpAny_truthy_bool ⟨H3,I3,q3⟩
def TruV(K:W.Frag)(x:V)(H:Hp)(k:Bool):Prop :=
 match x with
 | .non=>k=false
 | .bl b=>k=b
 | .int i=>k=(i != 0)
 | .str y=>y.length<=sizeLine/\k=((y.length:Int) != 0)
 | .ref p=>(∃ xs,SqL K H p xs/\k=!xs.isEmpty)\/(∃ xs,SqT K H p xs/\k=!xs.isEmpty)\/∃ kvs,H p=some (.dK kvs)/\k=!kvs.isEmpty
 | _=>False
theorem jru{κ:Type}{kvs:List (κ×V)}{vs:List (κ×Value)}(r:KV kvs vs):(!vs.isEmpty)=!kvs.isEmpty:=by
 cases r<;>rfl
theorem jls{xs:List V}{its:List Value}(r:Vals xs its):(!its.toArray.isEmpty)=!xs.isEmpty:=by
 cases r<;>simp
theorem jkm:(sizeLine:Nat)<2 ^ 63:=by rw[sizeLine_eq];decide
theorem jEp:TruR X (fun x H Q=>∃ k,TruV X.K x H k/\Q k H):=by
 intro U s Z H x v Q I rx h;obtain⟨k,e,q⟩:=h;have hl:=jkm;have hs:sizeLine=16777216:=sizeLine_eq
 cases x with
 | non =>
  cases rx;have e':k=false:=e;subst e';exact truthy_none ⟨H,I,q⟩
 | bl b =>
  cases rx;have e':k=b:=e;subst e';exact wpAny_truthy_bool ⟨H,I,q⟩
 | int i =>
  obtain⟨t,rfl⟩:=rx;have e':k=(i != 0):=e;subst e';exact PySem.P.truthy_int ⟨H,I,q⟩
 | str y =>
  obtain⟨t,rfl⟩:=rx;obtain⟨hy,e'⟩:y.length<=sizeLine/\k=((y.length:Int) != 0):=e;subst e';exact PySem.P.truthy_str (by omega) ⟨H,I.tok _,q⟩
 | ref p =>
  cases rx;have e':(∃ xs,SqL X.K H p xs/\k=!xs.isEmpty)\/(∃ xs,SqT X.K H p xs/\k=!xs.isEmpty)\/∃ kvs,H p=some (.dK kvs)/\k=!kvs.isEmpty:=e;rcases e' with ⟨xs,hx,e'⟩|⟨xs,hx,e'⟩|⟨kvs,hx,e'⟩
  ·subst e';obtain⟨its,r,pl,hz⟩:=I.list hx;have hlen:=r.length;exact wpAny_truthy_list pl.isList (by simp only[zby];omega) ⟨H,I.tok _,by rw[jls r];exact q⟩
  ·subst e';obtain⟨its,r,pl,hz⟩:=I.tuple hx;have hlen:=r.length;exact truthy_tuple pl (by simp only[zby];omega) ⟨H,I.tok _,by rw[jls r];exact q⟩
  ·subst e';obtain⟨hz,hS,vs,r,m⟩:kvs.length<=sizeLine/\(p == sysModules)=false/\∃ vs,KV kvs vs/\s.heap.DictOf (jcw X.prog X.w) p vs:=I.hok p _ hx;have hlen:kvs.length=vs.length:=Paired.length r;exact wpAny_truthy_dict hS m (by omega) ⟨H,I.tok _,by rw[jru r];exact q⟩
 | _=>exact (show False from e).elim
theorem jw3(ha:PE X a ta)(he:∀ whole,isTrue a X.env whole=(do let v <- whole;standAt a.pos;holding [v] (truthy v))) :
  PT X a (fun Z H Q=>ta Z H fun x H'=>∃ k,TruV X.K x H' k/\Q k H'):=by
 intro U s Z H Q I h;exact isTrue_plain (thn (ha U s Z H _ I h) fun v s1 ⟨x,H1,I1,r1,q1⟩=>jEp U s1 Z H1 x v Q I1 r1 q1) (he _)
theorem jr3:OpR X (binaryOp .Add) (fun x y H Q=>∃ i j,x=.str i/\y=.str j/\i.length+j.length<=sizeLine/\Q (.str (i++j)) H):=by
 intro U s Z H x y v u Q I rx ry h;obtain⟨i,j,rfl,rfl,hz,q⟩:=h;obtain⟨t,rfl⟩:=rx;obtain⟨t',rfl⟩:=ry;exact add_str (fun t' tk=>⟨.str (i++j),H,I.tok _,⟨_,rfl⟩,q⟩) hz
theorem jp4{x:V}{us:List Value}(r:Vals [x] us):∃ u,us=[u]/\RelV x u:=by
 cases r with
 | cons r1 r2=>cases r2;exact⟨_,rfl,r1⟩
theorem jmi:CallR X (.builtin "abs") (fun xs H Q=>∃ i,xs=[.int i]/\Q (.int (if i<0 then -i else i)) H):=by
 intro U s Z H xs us Q I r h;obtain⟨i,rfl,q⟩:=h;obtain⟨u,rfl,t,rfl⟩:=jp4 r;exact call_abs_int fun u tk=>⟨.int (if i<0 then -i else i),H,I.tok _,⟨_,rfl⟩,q⟩
end
structure ObjM(h:Heap)(x dx C:Addr)(mA:qc):Prop where
 obj:h.get? x=some (W.instObj C dx)
 ns:h.Ns1 dx mA
 ne:dx≠x
section
end
noncomputable def putF(f:Str)(v:V):List (Str×V)->List (Str×V)
 | []=>[(f,v)]
 | (g,x)::r=>if g=f then (g,v)::r else (g,x)::putF f v r
theorem RelO.some_of{v:V}{o:Option Value}(r:RelO (some v) o):∃ u,o=some u/\RelV v u:=by
 cases o with
 | none=>exact (show False from r).elim
 | some u=>exact⟨u,rfl,r⟩
section
end
structure Cls(K:W.Frag)(C:Addr):Prop where
 pg:W.plainGet K C Str.empty=true
 hd:W.hasDictIn K C=true
 po:W.plainOver K C=true
 sa:W.findIn K (.ref C) "__setattr__"=some (some (.builtin "object.__setattr__"))
def jxo(K:W.Frag)(C:Addr)(f:Str):Prop:=W.findIn K (.ref C) f=some none
structure Con(K:W.Frag)(C:Addr)(f:Str)(v:V)(u:Value):Prop where
 at_:W.findIn K (.ref C) f=some (some u)
 rel:RelV v u
 get:W.specialIn K u "__get__"=some none
 cp:W.copiedNames.contains f=false
structure Meth(K:W.Frag)(C:Addr)(m:Str)(f:Addr):Prop where
 at_:W.findIn K (.ref C) m=some (some (.ref f))
 fn:W.isFn K (.ref f)=true
 kp:W.keepIn K (.ref f)=true
section
end
inductive FldP(K:W.Frag)(f:Str)(Q:VK)(x:V)(H1:Hp):Prop
 | mk (a C dx:Addr) (fs:List (Str×V)) (v:V) (h1:x=.ref a) (h2:H1 a=some (.ins C dx fs)) (h3:Cls K C) (h4:jxo K C f) (h5:fs.lookup f=some v) (h6:Q v H1)
section
end
section
variable {H:Hp}
inductive TyOf(K:W.Frag)(H:Hp):V->Value->Prop where
 | non:TyOf K H .non (.type "NoneType")
 | bl (x:Bool):TyOf K H (.bl x) (.type "bool")
 | int (i:Int):TyOf K H (.int i) (.type "int")
 | str (x:Str):TyOf K H (.str x) (.type "str")
 | lst {a:Addr} {xs:List V} (e:H a=some (.lst xs)):TyOf K H (.ref a) (.type "list")
 | frz {a:Addr} {o:Obj} {xs:List V} (e:H a=some (.frz o (.lst xs))):TyOf K H (.ref a) (.type "list")
 | tup {a:Addr} {xs:List V} (e:H a=some (.tup xs)):TyOf K H (.ref a) (.type "tuple")
 | dK {a:Addr} {kvs:List (Key×V)} (e:H a=some (.dK kvs)):TyOf K H (.ref a) (.type "dict")
 | dT {a:Addr} {kvs:List (List Key×V)} (e:H a=some (.dT kvs)):TyOf K H (.ref a) (.type "dict")
 | ins {a C dx:Addr} {fs:List (Str×V)} (e:H a=some (.ins C dx fs)) (cl:Cls K C) (ha:W.findIn K (.ref C) "__class__"=some (some (.builtin "object.__class__")))
   (hn:W.specialIn K (.builtin "object.__class__") "__get__"=some (some (.builtin "getset_descriptor.__get__"))) (htk:W.takesIn K (.builtin "object.__class__")=some true)
   (hm:W.mroIn K C (.type "object")=some true):TyOf K H (.ref a) (.ref C)
end
structure Room(k:Nat)(A:Around):Prop where
 hd:A.handled=none
 dp:A.depth+3*k+5<recursionLimit
 un:A.units+16*k+200<cLine
theorem Room.mono{j k:Nat}{A:Around}(r:Room k A)(h:j<=k):Room j A:=⟨r.hd,by have:=r.dp;omega,by have:=r.un;omega⟩
theorem Room.m{j k:Nat}{A:Around}(r:Room k A)(h:Nat.ble j k=true):Room j A:=r.mono (Nat.le_of_ble_eq_true h)
theorem Room.deeper{k:Nat}{A:Around}(r:Room (k+1) A)(env:Env):Room k (A.deeper env) :=
 ⟨r.hd,by have:=r.dp;show A.depth+1+3*k+5<_;omega,by have:=r.un;show A.units+3+16*k+200<_;omega⟩
theorem Room.depth{k:Nat}{A:Around}(r:Room k A):A.depth<recursionLimit:=by have:=r.dp;omega
theorem Room.units{k:Nat}{A:Around}(r:Room k A):A.units+64<cLine:=by have:=r.un;omega
def tNil:TA:=fun _ H Q=>Q [] H
def jGx(ta:TE)(tr:TA):TA:=fun Z H Q=>ta Z H fun x H1=>tr Z H1 fun xs H2=>Q (x::xs) H2
section
variable {X:Cx}{e:Expr}{es:List Expr}{te:TE}{t:TA}{pos:Pos}
theorem jly:PA X [] tNil:=fun _ _ _ _ H Q I h=>Calls.spliced_nil ⟨[],H,I,.nil,h⟩
theorem jgf(ha:PE X e te)(hr:PA X es t)(hs:autoParam (starEach (e::es) X.env=(false,eval e X.env)::starEach es X.env) zau2._auto_1):PA X (e::es) (jGx te t):=by
 intro pos U s Z H Q I h;rw[hs];show wpAny _ _ (spliced ((false,eval e X.env)::backTo pos (starEach es X.env))) _ _ s;refine Calls.spliced_cons (thn (ha U s Z H _ I h) fun u s1 hzz=>?_);obtain⟨x,H1,I1,r1,q1⟩:=hzz;exact thn (hr pos U s1 Z H1 _ I1 q1) fun us s2 ⟨xs,H2,I2,r2,q2⟩=>⟨x::xs,H2,I2,.cons r1 r2,q2⟩
def tTup(t:TA):TE:=fun Z H Q=>t Z H fun xs H1=>xs.length<=sizeLine/\∀ p,H1 p=none->Q (.ref p) (upd H1 p (.tup xs))
def tLst(t:TA):TE:=fun Z H Q=>t Z H fun xs H1=>xs.length<=sizeLine/\∀ p,H1 p=none->Q (.ref p) (upd H1 p (.lst xs))
theorem jDn{x1}(h:PA X es t):PE X (.Tuple es x1 pos) (tTup t):=by
 intro U s Z H Q I hq;refine wpAny_Tuple_spliced (thn (h pos U s Z H _ I hq) fun us s1 ⟨xs,H1,I1,r,z,q⟩=>⟨by rw[<- r.length];exact z,?_⟩);have hf:H1 s1.heap.objs.size=none:=I1.hok.fresh (zac _);refine⟨.ref s1.heap.objs.size,upd H1 s1.heap.objs.size (.tup xs),I1.laid (t':=s1.toks) (fun b u e=>zaz _ e) (zac _) ?_,rfl,q _ hf⟩;exact⟨z,us,r,⟨_,zbv _ rfl,rfl,_,rfl⟩⟩
theorem juo(h:PA X es t):PE X (.List es pos) (tLst t):=by
 intro U s Z H Q I hq;refine wpAny_List_spliced (thn (h pos U s Z H _ I hq) fun us s1 ⟨xs,H1,I1,r,z,q⟩=>⟨by rw[<- r.length];exact z,?_⟩);have hf:H1 s1.heap.objs.size=none:=I1.hok.fresh (zac _);refine⟨.ref s1.heap.objs.size,upd H1 s1.heap.objs.size (.lst xs),I1.laid (t':=s1.toks) (fun b u e=>zaz _ e) (zac _) ?_,rfl,q _ hf⟩;exact⟨z,us,0,r,zbv _ rfl⟩
end
abbrev Sp:=List V->Hp->VK->XK->Prop
abbrev CXT:=List Env->Hp->Shared->XK->qe
structure Env0(P:Program)(w:World)(K:W.Frag)(mg:qc)(base:Heap)(A:Around)(outer:List Env)(s:Shared)(H:Hp):Prop where
 frames:A.frames=some outer
 mod:Mod K mg base
 bs:∀ b o,base.get? b=some o->s.heap.get? b=some o/\H b=none
 bsz:base.objs.size<=s.heap.objs.size
 funs:s.heap.FunFrames base outer
 frf:∀ b∈frs outer,H b=none
 hok:HOk P w H s.heap
 bare:AllBare s.gens
def CE(outer:List Env)(P:Program)(w:World)(H:Hp)(s:Shared)(Q:VK)(u:Value)(s':Shared):Prop :=
 ∃ v H',s'.os=s.os/\AllBare s'.gens/\Un (frs outer) [] H H' s.heap s'.heap/\HOk P w H' s'.heap/\RelV v u/\Q v H'
def CR(CX:CXT)(outer:List Env)(P:Program)(w:World)(H:Hp)(s:Shared)(Q:VK)(E:XK)(r:Result)(s':Shared):Prop :=
 match r with
 | .ok (.ret u)=>CE outer P w H s Q u s'
 | .ok _=>False
 | .error e=>CX outer H s E e s'
structure FnOk(P:Program)(w:World)(K:W.Frag)(mg:qc)(base:Heap)(CX:CXT)(k:Nat)(f:Addr)(fd:FuncData)(ps:List Str)(sp:Sp):Prop where
 len:∀ vs H Q E,sp vs H Q E->vs.length=ps.length
 run:∀ (A:Around) (outer:List Env) (s:Shared) (H:Hp) (args:Args) (us:List Value) (vs:List V) (Q:VK) (E:XK),Room k A->Env0 P w K mg base A outer s H->BindsTo s fd args (ps.zip us)->Vals vs us->sp vs H Q E ->
  codeAny (model P w) A (.call (.ref f) args) (CR CX outer P w H s Q E) s
theorem FnOk.imp{P:Program}{w:World}{K:W.Frag}{mg:qc}{base:Heap}{CX:CXT}{k:Nat}{f:Addr}{fd:FuncData}{ps:List Str}{sp sp':Sp}(F:FnOk P w K mg base CX k f fd ps sp)
  (h:∀ vs H Q E,sp' vs H Q E->sp vs H Q E):FnOk P w K mg base CX k f fd ps sp' :=
 ⟨fun vs H Q E q=>F.len vs H Q E (h _ _ _ _ q),fun A outer s H args us vs Q E hr he hb hv hs=>F.run A outer s H args us vs Q E hr he hb hv (h _ _ _ _ hs)⟩
section
variable {X:Cx}{U:qd}{Z:St}{H:Hp}{s s':Shared}
theorem Inv.env0(I:Inv X U Z H s):Env0 X.prog X.w X.K X.mg X.base X.A X.stack s H :=
 ⟨I.ok.frames,I.ok.mod,I.bs,zez I.ok.bsz I.sz,I.stack,I.stkFree,I.hok,I.bare⟩
theorem Inv.after{Q:VK}{u:Value}(I:Inv X U Z H s)(h:CE X.stack X.prog X.w H s Q u s'):EP X U Z Q u s':=by
 obtain⟨v,H',os,bare,un,hok,r,q⟩:=h;obtain⟨hh,g,d,t,os'⟩:=s';obtain rfl:os'=s.os:=os;exact⟨v,H',I.call (h':=hh) (g':=g) (d':=d) (t':=t) (ch:=[]) un hok bare (fun b z=>absurd z (by simp)),r,q⟩
end
def jGw(sp:Sp)(dvs:List V)(E:XK)(t:TA):TE:=fun Z H Q=>t Z H fun vs H1=>sp (vs++dvs) H1 Q E
def Binds(K:W.Frag)(fd:FuncData)(ps:List Str)(ds:List Value):Prop :=
 ∀ (s:Shared) (us:List Value),K.In s.heap->(us++ds).length=ps.length->BindsTo s fd ⟨us,[]⟩ (ps.zip (us++ds))
theorem Binds.all{K:W.Frag}{fd:FuncData}{ps:List Str}(h:∀ us:List Value,us.length=ps.length->bindArgs fd ⟨us,[]⟩=pure (ps.zip us)):Binds K fd ps []:=fun s us _ hl=>by
 rw[List.append_nil] at hl |-
 exact .of_eq (h us hl)
def jxp(CX:CXT)(X:Cx)(E:XK):Prop:=∀ (U:qd) (Z:St) (H:Hp) (s:Shared) (e:Value) (s':Shared),Inv X U Z H s->CX X.stack H s E e s'->X.xe e s'
section
variable {X:Cx}{CX:CXT}{k:Nat}{f C:Addr}{fd:FuncData}{ps:List Str}{sp:Sp}{dvs:List V}{ds:List Value}{E:XK}{x:Str}{p pos:Pos}{e:Expr}{es:List Expr}{t:TA}
theorem jD8{U:qd}{Z:St}{H:Hp}{s:Shared}{Q:VK}{us:List Value}{vs:List V}(F:FnOk X.prog X.w X.K X.mg X.base CX k f fd ps sp)(hr:Room k X.A)(hb:Binds X.K fd ps ds)(hd:Vals dvs ds)(hx:jxp CX X E)
  (I:Inv X U Z H s) (r:Vals vs us) (h:sp (vs++dvs) H Q E):wpAny (model X.prog X.w) X.A (call (.ref f) us) (EP X U Z Q) X.xe s:=by
 have r2:Vals (vs++dvs) (us++ds):=r.append hd;have hl:(us++ds).length=ps.length:=by rw[<- r2.length];exact F.len _ _ _ _ h
 refine wpAny_call (codeAny_mono (F.run X.A X.stack s H ⟨us,[]⟩ (us++ds) (vs++dvs) Q E hr I.env0 (hb s us I.kIn hl) r2 h) fun r s' hq=>?_)
 cases r with
 | error e=>exact hx U Z H s e s' I hq
 | ok fl =>
  cases fl with
  | ret u=>exact I.after hq
  | next=>exact False.elim hq
  | brk=>exact False.elim hq
  | cont=>exact False.elim hq
theorem jpw(F:FnOk X.prog X.w X.K X.mg X.base CX k f fd ps sp)(hr:Room k X.A)(hg:Gl X x)(hm:X.mg x=some (.ref f))(hk:W.keepIn X.K (.ref f)=true)(hb:Binds X.K fd ps ds)(hd:Vals dvs ds)(hx:jxp CX X E)
  (ha:PA X (e::es) t) (hdb:autoParam (qj x) zau1._auto_1) (he:autoParam (starEach (e::es) X.env=(false,eval e X.env)::starEach es X.env) zau2._auto_1) (hpl:autoParam ((backTo pos (starEach es X.env)).any (·.1)=false) zau2._auto_1) :
  PE X (.Call (.Name x p) (e::es) [] pos) (jGw sp dvs E t):=by
 intro U s Z H Q I h;refine wpAny_Call_Name_kw (jzi I hg hm ?_ hdb);refine W.callWith_K (h₀:=X.base) I.ok.mod.kin hk (thn (ha pos U s Z H _ I h) fun us s1 ⟨vs,H1,I1,r,q⟩=>⟨I1.kIn,?_⟩) he hpl;exact jD8 F hr hb hd hx I1 r q
structure Mk(K:W.Frag)(C f:Addr):Prop where
 makes:W.makesIn K C=true
 init:W.findIn K (.ref C) "__init__"=some (some (.ref f))
 fn:W.isFn K (.ref f)=true
 kp:W.keepIn K (.ref C)=true
end
section
variable {fd:FuncData}{ps ks:List Str}
structure KBinds(K:W.Frag)(fd:FuncData)(ps ks:List Str)(g:List Value->List Value->List Value)(gV:List V->List V->List V):Prop where
 to:∀ (s:Shared) (us ws:List Value),K.In s.heap->(g us ws).length=ps.length->BindsTo s fd ⟨us,ks.zip ws⟩ (ps.zip (g us ws))
 rel:∀ {vs:List V} {us:List Value} {zs:List V} {ws:List Value},Vals vs us->Vals zs ws->Vals (gV vs zs) (g us ws)
end
structure FnScope(N P:List Str)(sc:Scope):Prop where
 kind:sc.kind=.function
 co:sc.isCoroutine=false
 gen:sc.isGenerator=false
 nd:N.Nodup
 pre:N.take P.length=P
 par:∀ x∈P,sc.names.lookup x=some .local\/sc.names.lookup x=some .cell
 nofree:∀ y∈sc.names,y.2≠.free
theorem FnScope.m{N P:List Str}{c:Scope}(a:c.kind=.function)(b:c.isCoroutine=false)(d:c.isGenerator=false)(e:N.take P.length=P)(h:N.Nodup/\(∀ x∈P,c.names.lookup x=some .local\/c.names.lookup x=some .cell)/\∀ y∈c.names,y.2≠.free):FnScope N P c:=⟨a,b,d,h.1,e,h.2.1,h.2.2⟩
theorem jne{kindOf:Str->Option NameKind}{x:Str}:∀ {binds:List (Str×Value)} {m:qc},(∀ v,(x,v)∉binds)->bindL kindOf binds m x=m x
 | [],_,_=>rfl
 | (n,v)::r,m,h=>by
  unfold bindL;rw[jne fun w hw=>h w (zaw _ hw)]
  split
  ·have:x≠n:=by rintro rfl;exact h v zaa
   simp[this]
  ·rfl
theorem jnc{kindOf:Str->Option NameKind}{x:Str}:∀ {binds:List (Str×Value)} {m:qc},(∀ v,(x,v)∉binds)->bindC kindOf binds m x=m x
 | [],_,_=>rfl
 | (n,v)::r,m,h=>by
  unfold bindC;rw[jnc fun w hw=>h w (zaw _ hw)]
  split
  ·rfl
  ·have:x≠n:=by rintro rfl;exact h v zaa
   simp[this]
theorem jnd{kindOf:Str->Option NameKind}{x:Str}{v:Value}:∀ {P:List Str} {vs:List Value} {i:Nat} {m:qc},P.Nodup->P[i]? = some x->vs[i]? = some v->kindOf x=some .local ->
  bindL kindOf (P.zip vs) m x=some v
 | [],_,_,_,_,h,_,_=>by simp at h
 | _::_,[],_,_,_,_,h,_=>by simp at h
 | p::P,w::vs,0,m,nd,h1,h2,hk=>by
  simp at h1 h2;subst h1;subst h2
  show bindL kindOf ((p,w)::P.zip vs) m p=_;unfold bindL;rw[jne fun v hv=>(List.nodup_cons.mp nd).1 (zdz hv).1,if_pos hk];simp
 | p::P,w::vs,i+1,m,nd,h1,h2,hk=>by
  show bindL kindOf ((p,w)::P.zip vs) m x=_;unfold bindL;exact jnd (i:=i) (List.nodup_cons.mp nd).2 (by simpa using h1) (by simpa using h2) hk
theorem jnb{kindOf:Str->Option NameKind}{x:Str}{v:Value}:∀ {P:List Str} {vs:List Value} {i:Nat} {m:qc},P.Nodup->P[i]? = some x->vs[i]? = some v->kindOf x≠some .local ->
  bindC kindOf (P.zip vs) m x=some v
 | [],_,_,_,_,h,_,_=>by simp at h
 | _::_,[],_,_,_,_,h,_=>by simp at h
 | p::P,w::vs,0,m,nd,h1,h2,hk=>by
  simp at h1 h2;subst h1;subst h2
  show bindC kindOf ((p,w)::P.zip vs) m p=_;unfold bindC;rw[jnc fun v hv=>(List.nodup_cons.mp nd).1 (zdz hv).1,if_neg hk];simp
 | p::P,w::vs,i+1,m,nd,h1,h2,hk=>by
  show bindC kindOf ((p,w)::P.zip vs) m x=_;unfold bindC;exact jnb (i:=i) (List.nodup_cons.mp nd).2 (by simpa using h1) (by simpa using h2) hk
noncomputable def start(N:List Str)(vs:List V):St:=vs.map some++List.replicate (N.length-vs.length) none
noncomputable def cxOf(CX:CXT)(P:Program)(w:World)(K:W.Frag)(mg:qc)(base:Heap)(N:List Str)(qual:Str)(scope:Scope)(f:Addr)(cd:Value)(A:Around)(outer:List Env)(s:Shared)(H:Hp)(E:XK):Cx where
 prog:=P
 w:=w
 K:=K
 mg:=mg
 base:=base
 A:=A.deeper (envOfC qual scope s.heap.objs.size f cd)
 N:=N
 s₀:=s
 Hz:=H
 env:=envOfC qual scope s.heap.objs.size f cd
 outer:=outer
 stack:=envOfC qual scope s.heap.objs.size f cd::outer
 ex:=[]
 calm:=true
 fn:=fun _=>true
 pn:=[]
 xe:=fun e s'=>wpAny (model P w) (A.deeper (envOfC qual scope s.heap.objs.size f cd)) (leaving (envOfC qual scope s.heap.objs.size f cd) e) (fun _ s''=>CX outer H s E e s'') (fun e' s''=>CX outer H s E e' s'') s'
theorem jqc{sc:Scope}{n:Nat}{x:Str}(h:sc.names.lookup x=some .cell):∃ c,(cellsFrom n sc.names []).lookup x=some c:=by
 have q:=W.cellsFrom_some sc.names n [] (.inl h);exact Option.isSome_iff_exists.mp q
theorem jto{CX:CXT}{P:Program}{w:World}{K:W.Frag}{mg:qc}{base:Heap}{N ps:List Str}{qual:Str}{scope:Scope}{f:Addr}{cd:Value}{A:Around}{outer:List Env}{s s1:Shared}{H:Hp}{E:XK}{us:List Value}{vs:List V}
  (S:FnScope N ps scope) (hd:A.handled=none) (e0:Env0 P w K mg base A outer s H) (hl:vs.length=ps.length) (r:Vals vs us)
  (x:InCallC s s.heap.objs.size (bindL (envOfC qual scope s.heap.objs.size f cd).kindOf (ps.zip us) fun _=>none) (cellsFrom (s.heap.objs.size+1) scope.names []) (bindC (envOfC qual scope s.heap.objs.size f cd).kindOf (ps.zip us) fun _=>none) s1) :
  Inv (cxOf CX P w K mg base N qual scope f cd A outer s H E) [] (start N vs) H s1:=by
 have hpl:ps.length<=N.length:=by have:=congrArg List.length S.pre;rw[List.length_take] at this;omega
 obtain⟨h1,tk,rfl,hk⟩:=x.done;have noA:∀ b:Addr,b∉(cxOf CX P w K mg base N qual scope f cd A outer s H E).ex:=fun b z=>absurd (show b∈([]:List Addr) from z) (by simp)
 refine⟨⟨e0.mod,S.kind,rfl,rfl,zac _,fun y z c h1 h2=>?_,fun y hy=>?_,fun y c _ h=>?_,fun _=>hd,Around.frames_deeper e0.frames,.inr ⟨rfl,rfl⟩,fun b z=>absurd z (noA b),e0.bs,e0.bsz,fun b _ _=>noA b,fun b z=>absurd z (noA b),e0.funs,e0.frf⟩,
  rfl,e0.bare,Un.kept hk,⟨_,x.toInCall.ns,fun i y v h1 h2 h3=>?_⟩,fun y c h=>⟨_,x.cell y c h⟩,e0.hok.fresh (zac _),fun y c h=>?_,fun p hp=>absurd (show p∈([]:qd) from hp) (by simp),e0.hok.kept hk,?_⟩
 ·exact name_of_addr x.apart (PySem.mem_of_lookup h1) (PySem.mem_of_lookup h2)
 ·have hy:scope.names.lookup y=some .cell\/scope.names.lookup y=some .free:=hy;rcases hy with hy|hy
  ·exact jqc hy
  ·exact absurd rfl (S.nofree _ (PySem.mem_of_lookup hy))
 ·exact Nat.le_of_lt (x.above y c (PySem.mem_of_lookup h))
 ·have hi:i<vs.length:=by
   unfold start at h2
   by_cases hi:i<vs.length
   ·exact hi
   ·rw[List.getElem?_append_right (by simpa using hi)] at h2;rw[List.getElem?_replicate] at h2
    split at h2<;>cases h2
  have ha:vs[i]? = some v:=by
   unfold start at h2;rw[List.getElem?_append_left (by simpa using hi),zbb] at h2
   cases e:vs[i]? with
   | none=>rw[e] at h2;cases h2
   | some a=>rw[e] at h2;cases h2;rfl
  obtain⟨u,hu,rv⟩:=r.get ha;have hp:ps[i]? = some y:=by
   rw[<- S.pre,List.getElem?_take_of_lt (by omega)];exact h1
  have ndP:ps.Nodup:=by rw[<- S.pre];exact S.nd.sublist (List.take_sublist _ _)
  refine⟨u,rv,?_⟩;rcases S.par y (zdv hp) with k|k
  ·exact .inl ⟨k,jnd ndP hp hu k⟩
  ·obtain⟨c,e⟩:=jqc (n:=s.heap.objs.size+1) k;refine .inr ⟨.inl k,c,e,?_⟩;have q:=x.cell y c e;rw[jnb ndP hp hu (by show scope.names.lookup y≠_;rw[k];decide)] at q;exact q
 ·exact e0.hok.fresh (Nat.le_of_lt (x.above y c (PySem.mem_of_lookup h)))
 ·unfold start;show _=N.length;rw[zdb,zav,List.length_replicate];omega
theorem jFq{CX:CXT}{P:Program}{w:World}{K:W.Frag}{mg:qc}{base:Heap}{k:Nat}{f:Addr}{name qual:Str}{params:Arguments}{body:List Stmt}{scope:Scope}{dV kV doc pm cdv ct oc:Value}{an od:Option Addr}
  {osl:qg} {N ps:List Str} {sp:Sp} (lk:K.lookup f=some ⟨oc,od,.func (W.fnOf name qual params body scope dV kV doc pm an cdv ct),osl⟩) (hcd:W.codeIn K cdv qual=true) (S:FnScope N ps scope)
  (len:∀ vs H Q E,sp vs H Q E->vs.length=ps.length)
  (hbody:∀ (A:Around) (outer:List Env) (s:Shared) (H:Hp) (vs:List V) (Q:VK) (E:XK),Room k (A.deeper (envOfC qual scope s.heap.objs.size f cdv))->sp vs H Q E ->
   ∃ t,PSs (cxOf CX P w K mg base N qual scope f cdv A outer s H E) body t/\t { nx:=fun _ H'=>Q .non H',rt:=Q } (start N vs) H) :
  FnOk P w K mg base CX (k+1) f (W.fnOf name qual params body scope dV kV doc pm an cdv ct) ps sp:=by
 refine⟨len,fun A outer s H args us vs Q E hr e0 hb r hsp=>?_⟩;have hl:=len _ _ _ _ hsp;have KX:K.In s.heap:=e0.mod.kin.keeps fun b o e=>(e0.bs b o e).1
 have lim:s.heap.NoLimit:=e0.mod.nolimit.keeps fun b o e=>(e0.bs b o e).1
 have hkind:∀ y∈ps.zip us,scope.names.lookup y.1=some .local\/(scope.names.lookup y.1=some .cell/\((cellsFrom (s.heap.objs.size+1) scope.names []).lookup y.1).isSome=true):=fun ⟨n,v⟩ hy=>by
  rcases S.par n (zdz hy).1 with q|q
  ·exact .inl q
  ·exact .inr ⟨q,W.cellsFrom_some _ _ _ (.inl q)⟩
 refine codeAny_call_function hr.depth (KX _ _ lk) rfl S.co S.gen rfl (W.codeRec_of KX hcd) (hb _ _ _ _ ?_);refine wpAny_newFunctionEnv_cells S.kind hkind fun env he s1 x=>?_
 subst he;refine⟨lim.keeps x.toInCall.keep,codeAny_func ?_⟩;obtain⟨t,ht,hq⟩:=hbody A outer s H vs Q E (hr.deeper _) hsp;have I:Inv (cxOf CX P w K mg base N qual scope f cdv A outer s H E) [] (start N vs) H s1:=jto S hr.hd e0 hl r x;refine wpAny_mono (ht [] s1 (start N vs) H _ I hq) (fun fl s' hs=>?_) fun e s' hs=>hs
 have fin:∀ {Z':St} {H':Hp} {v:V} {u:Value},Inv (cxOf CX P w K mg base N qual scope f cdv A outer s H E) [] Z' H' s'->RelV v u->Q v H'->CE outer P w H s Q u s' :=
  fun {Z' H' v u} Jq rv q=>⟨v,H',Jq.os,Jq.bare,Jq.base,Jq.hok,rv,q⟩
 cases fl with
 | ret u =>
  obtain⟨v,Z',H',Jq,rv,q⟩:=hs;exact fin Jq rv q
 | next =>
  obtain⟨Z',H',Jq,q⟩:=hs;exact fin (v:=V.non) (u:=Value.none) Jq rfl q
 | brk =>
  obtain⟨_,_,_,q⟩:=hs;exact False.elim q
 | cont =>
  obtain⟨_,_,_,q⟩:=hs;exact False.elim q
section
variable {X:Cx}{x:Str}{p pos:Pos}{e:Expr}{es:List Expr}{t:TA}{id T:String}{r:List V->Hp->VK->Prop}
def tCB(r:List V->Hp->VK->Prop)(t:TA):TE:=fun Z H Q=>t Z H fun vs H1=>r vs H1 Q
theorem jws(hc:CallR X (.builtin id) r)(hg:Gl X x)(hm:X.mg x=none)(hv:bootBuiltins x=some (.builtin id))(ha:PA X (e::es) t)(hn:autoParam (x≠"__name__") zau1._auto_1)(hdb:autoParam (qj x) zau1._auto_1)
  (he:autoParam (starEach (e::es) X.env=(false,eval e X.env)::starEach es X.env) zau2._auto_1) (hpl:autoParam ((backTo pos (starEach es X.env)).any (·.1)=false) zau2._auto_1):PE X (.Call (.Name x p) (e::es) [] pos) (tCB r t):=by
 intro U s Z H Q I h;refine wpAny_Call_Name_kw (jjd I hg hm hv ?_ hn hdb);exact PyProof.Rows.callWith_builtin1 (thn (ha pos U s Z H _ I h) fun us s1 ⟨vs,H1,I1,r1,q1⟩=>hc U s1 Z H1 vs us Q I1 r1 q1) he hpl
theorem jgg(hc:CallR X (.type T) r)(hg:Gl X x)(hm:X.mg x=none)(hv:bootBuiltins x=some (.type T))(ha:PA X (e::es) t)(hn:autoParam (x≠"__name__") zau1._auto_1)(hdb:autoParam (qj x) zau1._auto_1)
  (he:autoParam (starEach (e::es) X.env=(false,eval e X.env)::starEach es X.env) zau2._auto_1) (hpl:autoParam ((backTo pos (starEach es X.env)).any (·.1)=false) zau2._auto_1):PE X (.Call (.Name x p) (e::es) [] pos) (tCB r t):=by
 intro U s Z H Q I h;refine wpAny_Call_Name_kw (jjd I hg hm hv ?_ hn hdb);exact PyProof.Rows.callWith_type1 (thn (ha pos U s Z H _ I h) fun us s1 ⟨vs,H1,I1,r1,q1⟩=>hc U s1 Z H1 vs us Q I1 r1 q1) he hpl
end
end L2
namespace HT
open PySem PyProof.Rows
section
open PySem.SeqAt
open PySem.AutoSeq1 (wpAny_loadPart')
open PySem.MeetsSeq PySem.MeetsSeq2 PySem.MeetsSeq3
end
section
variable {prog:Program}{w:World}{A:Around}{E:qe}{s:Shared}
theorem cat_tup{t b:Addr}{vs ws:List Value}{Q:qe}(ht:IsTup s.heap t vs.toArray)(hb:IsTup s.heap b ws.toArray)(hv:vs≠[])
  (h1:ws=[]->Q (.ref t) s) (h2:ws≠[]->Q (.ref s.heap.objs.size) { s with heap:=s.heap.push { cls:=.type "tuple",data:=.seq (vs++ws).toArray } })
  (hsz:vs.length+ws.length<=sizeLine):wpAny (model prog w) A (binaryOp .Add (.ref t) (.ref b)) Q E s:=by
 obtain⟨⟨cls,dd,data,sl⟩,ho,hc,n,hd⟩:=id ht;obtain⟨⟨cls2,dd2,data2,sl2⟩,ho2,hc2,n2,hd2⟩:=id hb;simp only at hc hd hc2 hd2;subst hc hd hc2 hd2;have e:vs.toArray++ws.toArray=(vs++ws).toArray:=by simp
 by_cases hw:ws=[]
 ·exact concat_meets ⟨_,ho,rfl⟩ ⟨_,ho2,rfl⟩ noFill_tuple_add seq_tuple_add PySem.F.slot_tuple_add PySem.F.entry_tuple_add (PySem.F.args_tuple_add_2 _ _)
   (tuple_addW1 t b vs.toArray ws.toArray n n2 dd dd2 sl sl2 (by simpa using hv) (by simp[hw])) ⟨ho,ho2,h1 hw⟩
 ·refine concat_meets ⟨_,ho,rfl⟩ ⟨_,ho2,rfl⟩ noFill_tuple_add seq_tuple_add PySem.F.slot_tuple_add PySem.F.entry_tuple_add (PySem.F.args_tuple_add_2 _ _)
   (tuple_addW2 t b vs.toArray ws.toArray n n2 dd dd2 sl sl2 (by simpa using hv) (by simpa using hw) (by rw[zby,zby];exact hsz)) ⟨ho,ho2,?_⟩
  rw[e];exact h2 hw
noncomputable def sIx(n d:Nat):Option Int->Nat
 | none=>d
 | some v=>if v<0 then (v+(n:Int)).toNat else min v.toNat n
theorem sIx_nat(n d k:Nat):sIx n d (some (k:Int))=min k n:=by
 show (if (k:Int)<0 then ((k:Int)+(n:Int)).toNat else min (k:Int).toNat n)=min k n;rw[if_neg (by omega),Int.toNat_natCast]
theorem jD9(n d:Nat)(hd:d<=n)(o:Option Int):sIx n d o<=n:=by
 cases o with
 | none=>exact hd
 | some v =>
  show (if v<0 then (v+(n:Int)).toNat else min v.toNat n)<=n
  by_cases hv:v<0
  ·rw[if_pos hv];omega
  ·rw[if_neg hv];exact Nat.min_le_right _ _
theorem jsu(v:Int)(n d:Nat):(if v<0 then max (v+(n:Int)) 0 else min v (n:Int))=((sIx n d (some v):Nat):Int):=by
 show (if v<0 then max (v+(n:Int)) 0 else min v (n:Int))=(((if v<0 then (v+(n:Int)).toNat else min v.toNat n):Nat):Int)
 by_cases hv:v<0
 ·simp only[if_pos hv];omega
 ·simp only[if_neg hv];omega
theorem jrl(lo hi:Option Int)(n:Nat):Builtin.Slice.sliceAdjust lo hi 1 (n:Int)=(((sIx n 0 lo:Nat):Int),((sIx n n hi:Nat):Int)):=by
 have h1:¬ ((1:Int)<0):=by omega
 unfold Builtin.Slice.sliceAdjust;simp only[h1,if_false];refine Prod.ext ?_ ?_
 ·cases lo with
  | none=>rfl
  | some v=>exact jsu v n 0
 ·cases hi with
  | none=>rfl
  | some v=>exact jsu v n n
theorem jr4(i j:Nat):Builtin.Slice.slicePlaces (i:Int) (j:Int) 1=j-i:=by
 unfold Builtin.Slice.slicePlaces;have h1:(1:Int) > 0:=by omega
 simp only[h1,if_true,Int.ediv_one]
 split<;>omega
theorem jl4{v:Value}{o:Option Int}{Q:Option Int->Shared->Prop}(p:IsPart v o)(h:Q o s):wpAny (model prog w) A (Builtin.Slice.slicePartIndex v) Q E s:=by
 cases p with
 | none=>exact slicePart_none h
 | int i t=>exact slicePart_int h
theorem jjm{sl:Addr}{vl vu:Value}{lo hi:Option Int}{n:Nat}{Q:Int×Int×Nat->Shared->Prop}(hs:s.heap.IsSliceOf sl vl vu .none)(pl:IsPart vl lo)(pu:IsPart vu hi)
  (h:Q (((sIx n 0 lo:Nat):Int),1,sIx n n hi-sIx n 0 lo) s):wpAny (model prog w) A (Builtin.Slice.sliceApplied (.ref sl) (pure (n:Int))) Q E s:=by
 obtain⟨os,hos,hcs,hds⟩:=id hs;unfold Builtin.Slice.sliceApplied Builtin.Slice.sliceFields;refine zay (zay (wpAny_field hos hds (x:=vl) rfl (zay (wpAny_field hos hds (x:=vu) rfl (zay (wpAny_field hos hds (x:=.none) rfl (zab ?_)))))));refine zay (slicePart_none ?_);show wpAny _ _ (if ((1:Int) == 0)=true then _ else _) _ _ s;rw[if_neg (by decide)];refine zay (jl4 pl (zay (jl4 pu (zay (zab ?_)))));show wpAny _ _ (match Builtin.Slice.sliceAdjust lo hi 1 (n:Int) with|(lo,hi)=>pure (lo,(1:Int),Builtin.Slice.slicePlaces lo hi 1)) _ _ s;rw[jrl lo hi n];show wpAny _ _ (pure (((sIx n 0 lo:Nat):Int),(1:Int),Builtin.Slice.slicePlaces ((sIx n 0 lo:Nat):Int) ((sIx n n hi:Nat):Int) 1)) _ _ s;rw[jr4];exact zab h
theorem jw0(xs:Array Value)(i k:Nat):((List.range k).filterMap fun (m:Nat)=>xs[((i:Int)+(m:Int)*1).toNat]?).toArray=((xs.toList.drop i).take k).toArray:=by
 have e:(fun (m:Nat)=>xs[((i:Int)+(m:Int)*1).toNat]?)=fun m=>xs[i+m]?:=by
  funext m
  have:((i:Int)+(m:Int)*1).toNat=i+m:=by omega
  rw[this]
 rw[e];have:=pick_run xs i k;rw[List.filterMap_map] at this;have e2:((fun x=>xs[x]?) ∘ fun x=>i+x)=fun m=>xs[i+m]?:=rfl
 rw[e2] at this;rw[this]
theorem getItem_tuple_cut{t sl:Addr}{items:Array Value}{vl vu:Value}{lo hi:Option Int}{Q:qe}(ht:IsTup s.heap t items)(hs:s.heap.IsSliceOf sl vl vu .none)(pl:IsPart vl lo)(pu:IsPart vu hi)
  (hw:¬ (sIx items.size 0 lo=0/\sIx items.size items.size hi=items.size))
  (h:Q (.ref s.heap.objs.size) { s with heap:=s.heap.push { cls:=.type "tuple",data:=.seq ((items.toList.drop (sIx items.size 0 lo)).take (sIx items.size items.size hi-sIx items.size 0 lo)).toArray } })
  (hsz:items.size<=sizeLine):wpAny (model prog w) A (getItem (.ref t) (.ref sl)) Q E s:=by
 have htake:sizeOk (.seq ((items.toList.drop (sIx items.size 0 lo)).take (sIx items.size items.size hi-sIx items.size 0 lo)).toArray):=by
  show ((items.toList.drop (sIx items.size 0 lo)).take (sIx items.size items.size hi-sIx items.size 0 lo)).toArray.size<=sizeLine;rw[zby,List.length_take,List.length_drop,Array.length_toList];omega
 have hj:sIx items.size items.size hi<=items.size:=jD9 _ _ (zac _) hi;obtain⟨os,hos,hcs,hds⟩:=id hs;have hTs:s.TypeIs (.ref sl) "slice":=⟨os,hos,hcs⟩
 unfold getItem
 try with_reducible refine wpAny_holding ?_
 first|refine zay (zab ?_)|skip
 refine zay (wpAny_sequenceKey ht.typeIs (by decide) ?_);refine zay (wpAny_callSpecial?_slot (name:=Str.ofString "__getitem__") ht.typeIs PyProof.Rows.slot_tuple_getitem
  (wpAny_call_entry PyProof.Rows.slot_tuple_getitem ht.typeIs entry_tuple_getitem ?_ (args_tuple_getitem _ _)))
 show wpAny _ _ (Builtin.Tuple.tupleItemsOf (.ref t) >>= _) _ _ s;refine zay (tupleItemsOf_ ht ?_);refine zay (wpAny_typeOf hTs ?_);rw[if_pos (by decide)];refine zay (jjm hs pl pu ?_);have hno:¬ ((((sIx items.size 0 lo:Nat):Int) == 0&&(1:Int) == 1&&(sIx items.size items.size hi-sIx items.size 0 lo) == items.size)=true):=by
  intro q;rw[Bool.and_eq_true,Bool.and_eq_true] at q;have q1:((sIx items.size 0 lo:Nat):Int)=0:=eq_of_beq q.1.1;have q2:sIx items.size items.size hi-sIx items.size 0 lo=items.size:=eq_of_beq q.2;exact hw ⟨by omega,by omega⟩
 show wpAny _ _ (if (((sIx items.size 0 lo:Nat):Int) == 0&&(1:Int) == 1&&(sIx items.size items.size hi-sIx items.size 0 lo) == items.size)=true then _ else _) _ _ s;rw[if_neg hno,jw0]
 first
  | exact zay (m:=Builtin.Tuple.tupleExact _) (wpAny_newObj_type (zab ⟨_,rfl,zab h⟩) htake)
  | exact zay (m:=Builtin.Tuple.tupleExact _) (wpAny_newObj_type (zay (zab (zab ⟨_,rfl,zab h⟩))) htake)
  | exact zay (zay (m:=Builtin.Tuple.tupleExact _) (wpAny_newObj_type (zab (zab ⟨_,rfl,zab h⟩)) htake))
  | exact zay (zay (m:=Builtin.Tuple.tupleExact _) (wpAny_newObj_type (zab ⟨_,rfl,zab h⟩) htake))
end
end HT
namespace L2
open PyProof.Rows
abbrev TO:=St->Hp->(Option Int->Hp->Prop)->Prop
def PO(X:Cx)(e:Option Expr)(t:TO):Prop :=
 ∀ (U:qd) (s:Shared) (Z:St) (H:Hp) (Q:Option Int->Hp->Prop),Inv X U Z H s->t Z H Q ->
  wpAny (model X.prog X.w) X.A (evalPart e X.env) (fun u s'=>∃ o H',Inv X U Z H' s'/\IsPart u o/\Q o H') X.xe s
def jAu:TO:=fun _ H Q=>Q none H
def jG2(t:TE):TO:=fun Z H Q=>t Z H fun x H1=>∃ i,x=.int i/\Q (some i) H1
section
variable {X:Cx}{e:Expr}{te:TE}{lo hi:Option Expr}{tl th:TO}{pos p2:Pos}
theorem jz8:PO X none jAu:=by
 intro U s Z H Q I h;rw[evalPart_none];exact zab ⟨none,H,I,.none,h⟩
theorem jz9(h:PE X e te):PO X (some e) (jG2 te):=by
 intro U s Z H Q I hw;rw[evalPart_some];refine thn (h U s Z H _ I hw) fun u s1 hzz=>?_
 obtain⟨x,H1,I1,r1,q1⟩:=hzz;obtain⟨i,rfl,q⟩:=q1;obtain⟨t,rfl⟩:=r1;exact⟨some i,H1,I1,.int i t,q⟩
def SlR(X:Cx)(r:V->Option Int->Option Int->Hp->VK->Prop):Prop :=
 ∀ (U:qd) (s:Shared) (Z:St) (H:Hp) (x:V) (v vl vu:Value) (lo hi:Option Int) (sl:Addr) (Q:VK),Inv X U Z H s->RelV x v->s.heap.IsSliceOf sl vl vu .none->IsPart vl lo->IsPart vu hi->r x lo hi H Q ->
  ∃ T id,typeLookup (.type T) "__getitem__"=pure (some (.builtin id))/\s.TypeIs v T/\wpAny (model X.prog X.w) X.A (getItem v (.ref sl)) (EP X U Z Q) X.xe s
theorem SlR.or{r r':V->Option Int->Option Int->Hp->VK->Prop}(h:SlR X r)(h':SlR X r'):SlR X (fun x lo hi H Q=>r x lo hi H Q\/r' x lo hi H Q):=by
 intro U s Z H x v vl vu lo hi sl Q I rx hs pl pu q;rcases q with q|q
 ·exact h U s Z H x v vl vu lo hi sl Q I rx hs pl pu q
 ·exact h' U s Z H x v vl vu lo hi sl Q I rx hs pl pu q
def tSl(r:V->Option Int->Option Int->Hp->VK->Prop)(te:TE)(tl th:TO):TE:=fun Z H Q=>te Z H fun x H1=>tl Z H1 fun l H2=>th Z H2 fun u H3=>r x l u H3 Q
theorem jwx{r:V->Option Int->Option Int->Hp->VK->Prop}(hr:SlR X r)(he:PE X e te)(hl:PO X lo tl)(hu:PO X hi th):PE X (.Subscript e (.Slice lo hi none p2) pos) (tSl r te tl th):=by
 intro U s Z H Q I h;refine Subscript_ (thn (he U s Z H _ I h) fun v s1 hzz=>?_);obtain⟨x,H1,I1,r1,q1⟩:=hzz;refine wpAny_Slice (thn (hl U s1 Z H1 _ I1 q1) fun vl s2 ⟨l,H2,I2,pl,q2⟩=>thn (hu U s2 Z H2 _ I2 q2) fun vu s3 hzz=>?_);obtain⟨u,H3,I3,pu,q3⟩:=hzz;rw[evalPart_none];refine zab ?_;have I4:Inv X U Z H3 { s3 with heap:=s3.heap.push { cls:=.type "slice",data:=.fields #[vl,vu,.none] } }:=I3.kept (t':=s3.toks) fun b ob q=>zaz _ q
 obtain⟨T,id,hT,ht,hg⟩:=hr U { s3 with heap:=s3.heap.push { cls:=.type "slice",data:=.fields #[vl,vu,.none] } } Z H3 x v vl vu l u s3.heap.objs.size Q I4 r1 (Heap.IsSliceOf.new ..) pl pu q3;show wpAny (model X.prog X.w) X.A (subscriptTail e (.Slice lo hi none p2) v (.ref s3.heap.objs.size)) (EP X U Z Q) X.xe { s3 with heap:=s3.heap.push { cls:=.type "slice",data:=.fields #[vl,vu,.none] } };exact tail_any (ops:=[.ref s3.heap.objs.size,v]) ht hT hg (by with_unfolding_all rfl)
def cutV(xs:List V)(lo hi:Option Int):List V:=(xs.drop (HT.sIx xs.length 0 lo)).take (HT.sIx xs.length xs.length hi-HT.sIx xs.length 0 lo)
theorem jkd(xs:List V)(lo hi:Option Int):(cutV xs lo hi).length<=xs.length:=by
 unfold cutV;rw[List.length_take,List.length_drop];omega
def rSlT(K:W.Frag):V->Option Int->Option Int->Hp->VK->Prop:=fun x lo hi H Q=>∃ a xs,x=.ref a/\SqT K H a xs /\
 ¬ (HT.sIx xs.length 0 lo=0/\HT.sIx xs.length xs.length hi=xs.length)/\∀ p,H p=none->Q (.ref p) (upd H p (.tup (cutV xs lo hi)))
theorem sl_tup:SlR X (rSlT X.K):=by
 intro U s Z H x v vl vu lo hi sl Q I rx hs pl pu h;obtain⟨a,xs,rfl,hx,hw,q⟩:=h;cases rx;obtain⟨its,r,ht,hz⟩:=I.tuple hx;have hlen:its.toArray.size=xs.length:=by rw[zby];exact r.length.symm
 refine⟨"tuple",_,PyProof.Rows.slot_tuple_getitem.lookup,ht.typeIs,?_⟩;refine HT.getItem_tuple_cut ht hs pl pu (by rw[hlen];exact hw) ?_ (by rw[hlen];exact hz);rw[hlen];refine⟨.ref s.heap.objs.size,_,I.laid (t':=s.toks) (o:=.tup (cutV xs lo hi)) (fun b ob q=>zaz _ q) (zac _) ?_,rfl,q _ (I.hok.fresh (zac _))⟩;exact⟨zez (jkd xs lo hi) hz,_,(r.drop (HT.sIx xs.length 0 lo)).take (HT.sIx xs.length xs.length hi-HT.sIx xs.length 0 lo),IsTup.new _ _⟩
def jAf(K:W.Frag):R2:=fun x y H Q=>∃ a b xs ys,x=.ref a/\y=.ref b/\SqT K H a xs/\SqT K H b ys/\xs≠[]/\xs.length+ys.length<=sizeLine /\
 (ys=[]->Q (.ref a) H)/\(ys≠[]->∀ p,H p=none->Q (.ref p) (upd H p (.tup (xs++ys))))
theorem Vals.nil_iff{xs:List V}{us:List Value}(r:Vals xs us):us=[]↔xs=[]:=by
 cases r with
 | nil=>simp
 | cons _ _=>simp
theorem jzw:OpR X (binaryOp .Add) (jAf X.K):=by
 intro U s Z H x y v u Q I rx ry h;obtain⟨a,b,xs,ys,rfl,rfl,ha,hb,hx,hz,q1,q2⟩:=h;cases rx;cases ry;obtain⟨its,r1,p1,_⟩:=I.tuple ha;obtain⟨its2,r2,p2,_⟩:=I.tuple hb;refine HT.cat_tup p1 p2 (fun z=>hx (r1.nil_iff.mp z)) (fun z=>⟨.ref a,H,I,rfl,q1 (r2.nil_iff.mp z)⟩) (fun z=>?_) (by rw[<- r1.length,<- r2.length];exact hz);refine⟨.ref s.heap.objs.size,_,I.laid (t':=s.toks) (o:=.tup (xs++ys)) (fun b ob q=>zaz _ q) (zac _) ?_,rfl,q2 (fun w=>z (r2.nil_iff.mpr w)) _ (I.hok.fresh (zac _))⟩;exact⟨by rw[zdb];exact hz,_,r1.append r2,IsTup.new _ _⟩
end
noncomputable def ixN(n:Nat)(i:Int):Option Nat:=if 0<=i then (if i<n then some i.toNat else none) else if -(n:Int)<=i then some (i+n).toNat else none
def atI{α:Type}(xs:List α)(i:Int):Option α:=(ixN xs.length i).bind fun j=>xs[j]?
theorem jtr{n:Nat}{i:Int}{j:Nat}(h:ixN n i=some j):seqIndex? i n=some j/\j<n/\-(n:Int)<=i/\i<n:=by
 unfold ixN at h
 by_cases h0:0<=i
 ·rw[if_pos h0] at h
  by_cases h1:i<n
  ·rw[if_pos h1] at h;have e:i.toNat=j:=zbz h;exact⟨by rw[seqIndex_of h0 h1,e],by omega,by omega,h1⟩
  ·rw[if_neg h1] at h;cases h
 ·rw[if_neg h0] at h
  by_cases h1:-(n:Int)<=i
  ·rw[if_pos h1] at h;have e:(i+n).toNat=j:=zbz h;exact⟨by rw[seqIndex_neg (by omega) h1,e],by omega,h1,by omega⟩
  ·rw[if_neg h1] at h;cases h
theorem atI_get{α:Type}{xs:List α}{i:Int}{v:α}(h:atI xs i=some v):∃ j,seqIndex? i xs.length=some j/\xs[j]? = some v/\j<xs.length/\-(xs.length:Int)<=i/\i<xs.length:=by
 unfold atI at h
 cases e:ixN xs.length i with
 | none=>rw[e] at h;cases h
 | some j =>
  rw[e] at h;obtain⟨h1,h2,h3,h4⟩:=jtr e;exact⟨j,h1,h,h2,h3,h4⟩
def jl6(b:Expr):Prop:=∀ o i,subscripted b false o i=operate [o,i] (getItem o i)
def IxR(X:Cx)(r:R2):Prop :=
 ∀ (value slice:Expr) (U:qd) (s:Shared) (Z:St) (H:Hp) (x y:V) (v u:Value) (Q:VK),Inv X U Z H s->RelV x v->RelV y u->r x y H Q ->
  subscripted slice false v u=operate [v,u] (getItem v u)->wpAny (model X.prog X.w) X.A (subscriptTail value slice v u) (EP X U Z Q) X.xe s
def MtR(X:Cx)(id:String)(r:V->List V->Hp->VK->Prop):Prop :=
 ∀ (U:qd) (s:Shared) (Z:St) (H:Hp) (x:V) (xs:List V) (v:Value) (us:List Value) (Q:VK),Inv X U Z H s->RelV x v->Vals xs us->r x xs H Q ->
  wpAny (model X.prog X.w) X.A (call (.builtin id) (v::us)) (EP X U Z Q) X.xe s
section
variable {X:Cx}{a b:Expr}{ta tb:TE}{pos:Pos}
theorem IxR.or{r r':R2}(h:IxR X r)(h':IxR X r'):IxR X (fun x y H Q=>r x y H Q\/r' x y H Q):=by
 intro value slice U s Z H x y v u Q I rx ry q hs;rcases q with q|q
 ·exact h value slice U s Z H x y v u Q I rx ry q hs
 ·exact h' value slice U s Z H x y v u Q I rx ry q hs
theorem jz5{r:R2}(hr:IxR X r)(ha:PE X a ta)(hb:PE X b tb)(hs:jl6 b):PE X (.Subscript a b pos) (tOp r ta tb):=by
 intro U s Z H Q I h;exact Subscript_ (binT ha hb I h fun v u s2 x y H2 I2 rx ry q=>hr a b U s2 Z H2 x y v u Q I2 rx ry q (hs _ _))
def rIxL(K:W.Frag):R2:=fun x y H Q=>∃ p xs i v,x=.ref p/\y=.int i/\SqL K H p xs/\atI xs i=some v/\Q v H
def rIxT(K:W.Frag):R2:=fun x y H Q=>∃ p xs i v,x=.ref p/\y=.int i/\SqT K H p xs/\atI xs i=some v/\Q v H
def rIxS:R2:=fun x y H Q=>∃ z i c,x=.str z/\y=.int i/\z.length<=sizeLine/\atI z.cps.toList i=some c/\Q (.str ⟨#[c]⟩) H
theorem ix_list:IxR X (rIxL X.K):=by
 intro value slice U s Z H x y v u Q I rx ry h hs;obtain⟨p,xs,i,z,rfl,rfl,hq,he,q⟩:=h;cases rx;obtain⟨t,rfl⟩:=ry;obtain⟨its,r,pl,hz⟩:=I.list hq;obtain⟨j,h1,h2,h3,h4,h5⟩:=atI_get he;obtain⟨w,ew,rw'⟩:=r.get h2;have hl:=r.length;have hn:=jkm;have fin:EP X U Z Q w s:=⟨z,H,I,rw',q⟩
 by_cases h0:0<=i
 ·have hj:i.toNat=j:=by
   rw[seqIndex_of h0 h5] at h1;exact zbz h1
  exact item_listR pl.isList h0 (by omega) (by rw[hj];simpa using ew) fin hs
 ·have hj:(i+(its.toArray.size:Int)).toNat=j:=by
   rw[seqIndex_neg (by omega) h4] at h1;rw[zby,<- hl];exact zbz h1
  exact subscriptTail_builtinR (x:=w) pl.isList.typeIs slot_list_getitem.lookup
   (wpAny_getItem_list_neg (Q:=fun r s'=>r=w/\EP X U Z Q r s') pl.isList (by omega) (by rw[zby]<;>omega) (by omega) (by rw[hj];simpa using ew) ⟨rfl,fin⟩) hs
theorem ix_tup:IxR X (rIxT X.K):=by
 intro value slice U s Z H x y v u Q I rx ry h hs;obtain⟨p,xs,i,z,rfl,rfl,hq,he,q⟩:=h;cases rx;obtain⟨t,rfl⟩:=ry;obtain⟨its,r,pl,hz⟩:=I.tuple hq;obtain⟨j,h1,h2,h3,h4,h5⟩:=atI_get he;obtain⟨w,ew,rw'⟩:=r.get h2;have hl:=r.length;have hn:=jkm;have fin:EP X U Z Q w s:=⟨z,H,I,rw',q⟩
 exact subscriptTail_builtinR (x:=w) pl.typeIs slot_tuple_getitem.lookup
  (getItem_tuple (j:=j) (Q:=fun r s'=>r=w/\EP X U Z Q r s') pl (by omega) (by omega) (by rw[zby,<- hl];exact h1) (by simpa using ew) ⟨rfl,fin⟩) hs
theorem jCc:IxR X rIxS:=by
 intro value slice U s Z H x y v u Q I rx ry h hs;obtain⟨z,i,c,rfl,rfl,hz,he,q⟩:=h;obtain⟨t,rfl⟩:=rx;obtain⟨t',rfl⟩:=ry;obtain⟨j,h1,h2,h3,h4,h5⟩:=atI_get he;have hl:z.cps.toList.length=z.length:=by simp[Str.length]
 rw[hl] at h1 h4 h5;have hn:=jkm;exact tail_any (typeIs_str s z t) slot_str_getitem.lookup (getItem_str (c:=c) (by
  have e1:decide (i < -(2 ^ 63:Int))=false:=decide_eq_false (by omega);have e2:decide (i >= 2 ^ 63)=false:=decide_eq_false (by omega);rw[e1,e2,Bool.or_false]) (by rw[h1];simpa using h2) ⟨.str ⟨#[c]⟩,H,I.tok _,⟨_,rfl⟩,q⟩) hs
def rIx(K:W.Frag):R2:=fun x y H Q=>rIxL K x y H Q\/rIxT K x y H Q\/rIxS x y H Q
theorem jah:IxR X (rIx X.K):=ix_list.or (ix_tup.or jCc)
theorem jrx(its:List Value)(n j:Nat)(u:Value):Obj.mapSeq (·.setIfInBounds j u) { cls:=.type "list",data:=.seq its.toArray n }={ cls:=.type "list",data:=.seq (its.set j u).toArray n }:=by
 simp[Obj.mapSeq]
theorem Inv.lst{U:qd}{Z:St}{H:Hp}{s:Shared}{p:Addr}{xs:List V}(I:Inv X U Z H s)(h:H p=some (.lst xs)) :
  ∃ (its:List Value) (n:Nat),Vals xs its/\s.heap.get? p=some { cls:=.type "list",data:=.seq its.toArray n }/\xs.length<=sizeLine:=by
 obtain⟨z,its,n,r,e⟩:=I.hok p _ h;exact⟨its,n,r,e,z⟩
theorem Inv.lstUpd{U:qd}{Z:St}{H:Hp}{s:Shared}{p:Addr}{xs ys:List V}{its its':List Value}{n n':Nat}{f:Obj->Obj}(I:Inv X U Z H s)(h:H p=some (.lst xs))
  (ho:s.heap.get? p=some { cls:=.type "list",data:=.seq its.toArray n }) (hf:f { cls:=.type "list",data:=.seq its.toArray n }={ cls:=.type "list",data:=.seq its'.toArray n' }) (r:Vals ys its') (hz:ys.length<=sizeLine) (t:Nat) :
  Inv X U Z (upd H p (.lst ys)) { s with heap:=s.heap.update p f,toks:=t }:=by
 have e:(s.heap.update p f).get? p=some { cls:=.type "list",data:=.seq its'.toArray n' }:=by
  rw[Heap.get?_update_self f ho (by rw[hf]<;>rfl),hf]
 refine I.write (x:=p) (e:=p) (by rw[h];trivial) (.inl rfl) (fun b u hb q=>(Heap.get?_update_other _ _ (Ne.symm hb)).trans q) ⟨_,e⟩ ?_;exact⟨hz,its',n',r,e⟩
def jGm:V->V->V->Hp->(Hp->Prop)->Prop:=fun o i v H Q=>∃ p xs k j,o=.ref p/\i=.int k/\H p=some (.lst xs)/\ixN xs.length k=some j/\Q (upd H p (.lst (xs.set j v)))
theorem jw8:PSet X jGm:=by
 intro U s Z H o i v ov iv u Q I ro ri rv h;obtain⟨p,xs,k,j,rfl,rfl,hp,hj,q⟩:=h;cases ro;obtain⟨t,rfl⟩:=ri;obtain⟨its,n,r,ho,hz⟩:=I.lst hp;obtain⟨h1,h2,h3,h4⟩:=jtr hj;have hl:=r.length;have hn:=jkm;have I':Inv X U Z (upd H p (.lst (xs.set j v))) { s with heap:=s.heap.update p (Obj.mapSeq (·.setIfInBounds j u)) } :=
  I.lstUpd hp ho (jrx its n j u) (r.set rv j) (by rw[List.length_set];exact hz) s.toks
 by_cases h0:0<=k
 ·have hk:k.toNat=j:=by
   rw[seqIndex_of h0 h4] at h1;exact zbz h1
  exact W.ki_setAt ho h0 (by omega) (by rw[zby,<- hl];exact h4) (by rw[hk];exact⟨_,I',q⟩)
 ·have hk:(k+(its.toArray.size:Int)).toNat=j:=by
   rw[seqIndex_neg (by omega) h3] at h1;rw[zby,<- hl];exact zbz h1
  exact W.ki_setBack ho (by omega) (by rw[zby,<- hl];exact h3) (by omega) (by rw[hk];exact⟨_,I',q⟩)
theorem jor(lo hi:Option Int)(n:Nat):(sliceBounds lo hi none n).1=((HT.sIx n 0 lo:Nat):Int)/\(sliceBounds lo hi none n).2.1=((HT.sIx n n hi:Nat):Int)/\(sliceBounds lo hi none n).2.2=1:=by
 refine⟨?_,?_,rfl⟩
 ·cases lo with
  | none=>simp[sliceBounds,HT.sIx]
  | some i =>
   simp only[sliceBounds,HT.sIx,Option.getD_none,show (1:Int) > 0 by decide,if_true]
   by_cases h:i<0
   ·simp only[h,if_true]<;>omega
   ·simp only[h,if_false]<;>omega
 ·cases hi with
  | none=>simp[sliceBounds,HT.sIx]
  | some i =>
   simp only[sliceBounds,HT.sIx,Option.getD_none,show (1:Int) > 0 by decide,if_true]
   by_cases h:i<0
   ·simp only[h,if_true]<;>omega
   ·simp only[h,if_false]<;>omega
theorem jm7(its:List Value)(lo hi:Option Int):slicePick its.toArray lo hi none=((its.drop (HT.sIx its.length 0 lo)).take (HT.sIx its.length its.length hi-HT.sIx its.length 0 lo)).toArray:=by
 obtain⟨h1,h2,h3⟩:=jor lo hi its.toArray.size;unfold slicePick;rw[h1,h2,h3];simp only[sliceRange_one,pick_run,zby]<;>rfl
def rSlL(K:W.Frag):V->Option Int->Option Int->Hp->VK->Prop:=fun x lo hi H Q=>∃ a xs,x=.ref a/\SqL K H a xs/\∀ p,H p=none->Q (.ref p) (upd H p (.lst (cutV xs lo hi)))
theorem sl_list:SlR X (rSlL X.K):=by
 intro U s Z H x v vl vu lo hi sl Q I rx hs pl pu h;obtain⟨a,xs,rfl,hx,q⟩:=h;cases rx;obtain⟨its,r,ht,hz⟩:=I.list hx;have hlen:=r.length;refine⟨"list",_,slot_list_getitem.lookup,ht.isList.typeIs,?_⟩;refine wpAny_getItem_list_slice ht.isList hs pl pu .none (by simp) ?_ (by rw[zby]<;>omega);rw[jm7,<- hlen];refine⟨.ref s.heap.objs.size,_,I.laid (t':=s.toks) (o:=.lst (cutV xs lo hi)) (fun b ob q=>zaz _ q) (zac _) ?_,rfl,q _ (I.hok.fresh (zac _))⟩;exact⟨zez (jkd xs lo hi) hz,_,0,(r.drop (HT.sIx xs.length 0 lo)).take (HT.sIx xs.length xs.length hi-HT.sIx xs.length 0 lo),zbv _ rfl⟩
noncomputable def jli:V->Bool
 | .non=>true
 | .bl _=>true
 | .int _=>true
 | .str _=>true
 | _=>false
noncomputable def eqV:V->V->Bool
 | .non,.non=>true
 | .bl a,.bl b=>a == b
 | .bl a,.int b=>(if a then 1 else 0) == b
 | .int a,.bl b=>a == (if b then 1 else 0)
 | .int a,.int b=>a == b
 | .str a,.str b=>a == b
 | _,_=>false
theorem jBy{A:Around}{s:Shared}{y x:V}{u v:Value}(ry:RelV y u)(rx:RelV x v)(fy:jli y=true)(fx:jli x=true):SeqAt.EqAt A s u v (eqV y x):=by
 cases y with
 | non =>
  cases ry
  cases x with
  | non=>cases rx;exact SeqAt.EqAt.same _
  | bl b=>cases rx;exact SeqAt.EqAt.none_bool b
  | int b=>obtain⟨t,rfl⟩:=rx;exact SeqAt.EqAt.none_int b t
  | str b=>obtain⟨t,rfl⟩:=rx;exact SeqAt.EqAt.none_str b t
  | _=>exact absurd (show false=true from fx) Bool.false_ne_true
 | bl a =>
  cases ry
  cases x with
  | non=>cases rx;exact SeqAt.EqAt.bool_none a
  | bl b=>cases rx;exact SeqAt.EqAt.bool_bool a b
  | int b=>obtain⟨t,rfl⟩:=rx;exact SeqAt.EqAt.bool_int a b t
  | str b=>obtain⟨t,rfl⟩:=rx;exact SeqAt.EqAt.bool_str a b t
  | _=>exact absurd (show false=true from fx) Bool.false_ne_true
 | int a =>
  obtain⟨t',rfl⟩:=ry
  cases x with
  | non=>cases rx;exact SeqAt.EqAt.int_none a t'
  | bl b=>cases rx;exact SeqAt.EqAt.int_bool a t' b
  | int b=>obtain⟨t,rfl⟩:=rx;exact SeqAt.EqAt.int_int a t' b t
  | str b=>obtain⟨t,rfl⟩:=rx;exact SeqAt.EqAt.int_str a t' b t
  | _=>exact absurd (show false=true from fx) Bool.false_ne_true
 | str a =>
  obtain⟨t',rfl⟩:=ry
  cases x with
  | non=>cases rx;exact SeqAt.EqAt.str_none a t'
  | bl b=>cases rx;exact SeqAt.EqAt.str_bool a t' b
  | int b=>obtain⟨t,rfl⟩:=rx;exact SeqAt.EqAt.str_int a t' b t
  | str b=>obtain⟨t,rfl⟩:=rx;exact SeqAt.EqAt.str_str a t' b t
  | _=>exact absurd (show false=true from fx) Bool.false_ne_true
 | _=>exact absurd (show false=true from fy) Bool.false_ne_true
def eqU(x:V)(u:Value):Bool:=match u with
 | .none=>eqV .non x
 | .bool b=>eqV (.bl b) x
 | .int i _=>eqV (.int i) x
 | .str z _=>eqV (.str z) x
 | _=>false
theorem jxx{x y:V}{u:Value}(r:RelV y u)(f:jli y=true):eqU x u=eqV y x:=by
 cases y with
 | non=>cases r;rfl
 | bl b=>cases r;rfl
 | int i=>obtain⟨t,rfl⟩:=r;rfl
 | str z=>obtain⟨t,rfl⟩:=r;rfl
 | _=>exact absurd (show false=true from f) Bool.false_ne_true
theorem jo0{x:V}:∀ {xs:List V} {us:List Value},Vals xs us->xs.all jli=true->us.any (eqU x)=xs.any fun y=>eqV y x
 | _,_,.nil,_=>rfl
 | y::xs,u::us,.cons r t,f=>by
  rw[List.all_cons,Bool.and_eq_true] at f;rw[List.any_cons,List.any_cons,jxx r f.1,jo0 t f.2]
theorem jmt{A:Around}{s:Shared}{x:V}{v:Value}(rx:RelV x v)(fx:jli x=true):∀ {xs:List V} {us:List Value},Vals xs us->xs.all jli=true->∀ u∈us,SeqAt.EqAt A s u v (eqU x u)
 | _,_,.nil,_=>fun u hu=>by cases hu
 | y::xs,u::us,.cons r t,f=>fun u' hu=>by
  rw[List.all_cons,Bool.and_eq_true] at f;rcases List.mem_cons.mp hu with rfl|hu
  ·rw[jxx r f.1];exact jBy r rx f.1 fx
  ·exact jmt rx fx t f.2 u' hu
def inV(x:V)(xs:List V):Bool:=xs.any fun y=>eqV y x
def rIn(K:W.Frag)(neg:Bool):R2:=fun x y H Q=>∃ p xs,y=.ref p/\(SqL K H p xs\/SqT K H p xs)/\jli x=true/\xs.all jli=true/\Q (.bl (if neg then !inV x xs else inV x xs)) H
theorem juk:OpR X (compareOp .In) (rIn X.K false):=by
 intro U s Z H x y v u Q I rx ry h;obtain⟨p,xs,rfl,hq,fx,fs,q⟩:=h;cases ry;rcases hq with hq|hq
 ·obtain⟨its,r,pl,hz⟩:=I.list hq;refine SeqAt.in_listAt (eqU x) pl.isList (fun w hw=>jmt rx fx r fs w (by simpa using hw)) ⟨.bl _,H,I,rfl,?_⟩;rw[show its.toArray.any (eqU x)=its.any (eqU x) by simp,jo0 r fs];exact q
 ·obtain⟨its,r,pl,hz⟩:=I.tuple hq;refine SeqAt.in_tupleAt (eqU x) pl (fun w hw=>jmt rx fx r fs w (by simpa using hw)) ⟨.bl _,H,I,rfl,?_⟩;rw[show its.toArray.any (eqU x)=its.any (eqU x) by simp,jo0 r fs];exact q
theorem call_len_seq:CallR X (.builtin "len") (fun xs H Q=>∃ p ys,xs=[.ref p]/\(SqL X.K H p ys\/SqT X.K H p ys)/\Q (.int ys.length) H):=by
 intro U s Z H xs us Q I r h;obtain⟨p,ys,rfl,hq,q⟩:=h;obtain⟨u,rfl,rx⟩:=jp4 r;cases rx;have hn:=jkm;rcases hq with hq|hq
 ·obtain⟨its,r',pl,hz⟩:=I.list hq;have hlen:=r'.length;exact Calls.call_len_list pl.isList (by simp only[zby]<;>omega) ⟨.int ys.length,H,I.tok _,⟨s.toks+1,by rw[zby,hlen]⟩,q⟩
 ·obtain⟨its,r',pl,hz⟩:=I.tuple hq;have hlen:=r'.length;exact len_tuple pl (by simp only[zby]<;>omega) ⟨.int ys.length,H,I.tok _,⟨s.toks+1,by rw[zby,hlen]⟩,q⟩
theorem jnm:CallR X (.builtin "len") (fun xs H Q=>∃ z,xs=[.str z]/\z.length<=sizeLine/\Q (.int z.length) H):=by
 intro U s Z H xs us Q I r h;obtain⟨z,rfl,hz,q⟩:=h;obtain⟨u,rfl,t,rfl⟩:=jp4 r;have hn:=jkm;exact len_str (by omega) ⟨.int z.length,H,I.tok _,⟨_,rfl⟩,q⟩
theorem CallR.or{f:Value}{r r':List V->Hp->VK->Prop}(h:CallR X f r)(h':CallR X f r'):CallR X f (fun xs H Q=>r xs H Q\/r' xs H Q):=by
 intro U s Z H xs us Q I rs q;rcases q with q|q
 ·exact h U s Z H xs us Q I rs q
 ·exact h' U s Z H xs us Q I rs q
theorem jbr:CallR X (.type "tuple") (fun xs H Q=>∃ p ys,xs=[.ref p]/\((SqL X.K H p ys/\∀ l,H l=none->Q (.ref l) (upd H l (.tup ys)))\/(SqT X.K H p ys/\Q (.ref p) H))):=by
 intro U s Z H xs us Q I r h;obtain⟨p,ys,rfl,h⟩:=h;obtain⟨u,rfl,rx⟩:=jp4 r;cases rx;rcases h with ⟨hq,q⟩|⟨hq,q⟩
 ·obtain⟨its,r',pl,hz⟩:=I.list hq;have hlen:=r'.length;refine call_tuple_list pl.isList (fun h' kp=>?_) (by simp only[zby]<;>omega);have I1:Inv X U Z H { s with heap:=h' }:=I.kept (t':=s.toks) kp;have I2:Inv X U Z (upd H h'.objs.size (.tup ys)) { s with heap:=h'.push { cls:=.type "tuple",data:=.seq its.toArray } } :=
   I1.laid (t':=s.toks) (fun b o e=>zaz _ e) (zac _) (show ObjOk X.prog X.w _ _ _ (.tup ys) from ⟨hz,its,r',IsTup.new _ _⟩)
  exact⟨.ref h'.objs.size,_,I2,rfl,q _ (I1.hok.fresh (zac _))⟩
 ·obtain⟨its,r',pl,hz⟩:=I.tuple hq;exact call_tuple_same pl ⟨.ref p,H,I,rfl,q⟩
def tyV(K:W.Frag)(T:String)(x:V)(H:Hp):Prop:=match x with
 | .str _=>T="str"
 | .int _=>T="int"
 | .ref p=>(T="list"/\∃ xs,SqL K H p xs)\/(T="tuple"/\∃ o,K.lookup p=some o/\o.cls=.type "tuple"/\o.dict=none) \/
   (T="dict"/\((∃ kvs,H p=some (.dK kvs))\/∃ kvs,H p=some (.dT kvs)))
 | _=>False
theorem jEq{U:qd}{Z:St}{H:Hp}{s:Shared}{T:String}{x:V}{v:Value}(I:Inv X U Z H s)(r:RelV x v)(ty:tyV X.K T x H) :
  s.TypeIs v T/\∀ a,v=.ref a->∃ ob,s.heap.get? a=some ob/\ob.dict=none:=by
 cases x with
 | str z =>
  obtain⟨t,rfl⟩:=r;cases (show T="str" from ty);exact⟨typeIs_str s z t,fun _ e=>nomatch e⟩
 | int i =>
  obtain⟨t,rfl⟩:=r;cases (show T="int" from ty);exact⟨typeIs_int s i t,fun _ e=>nomatch e⟩
 | ref p =>
  cases r;rcases ty with ⟨rfl,xs,hq⟩|⟨rfl,o,hk,hc,hd⟩|⟨rfl,hk⟩
  ·obtain⟨its,_,pl,_⟩:=I.list hq;refine⟨pl.isList.typeIs,fun a e=>?_⟩;cases e;obtain⟨o,n,e,c,hd,_⟩:=pl;exact⟨o,e,hd⟩
  ·refine⟨⟨o,I.kIn p o hk,hc⟩,fun a e=>?_⟩;cases e;exact⟨o,I.kIn _ o hk,hd⟩
  ·have z:∃ o,s.heap.get? p=some o/\o.ExactDict:=by
    rcases hk with ⟨kvs,hk⟩|⟨kvs,hk⟩
    ·obtain⟨_,_,_,_,o,_,_,e,ex,_⟩:=I.hok p _ hk;exact⟨o,e,ex⟩
    ·obtain⟨_,_,_,_,o,_,_,e,ex,_⟩:=I.hok p _ hk;exact⟨o,e,ex⟩
   obtain⟨o,e,ex⟩:=z;refine⟨⟨o,e,ex.1⟩,fun a e2=>?_⟩;cases e2;exact⟨o,e,ex.2.1⟩
 | _=>exact False.elim ty
def tBM(K:W.Frag)(T:String)(r:V->List V->Hp->VK->Prop)(to:TE)(t:TA):TE:=fun Z H Q=>to Z H fun x H1=>tyV K T x H1/\t Z H1 fun xs H2=>r x xs H2 Q
variable {o e:Expr}{es:List Expr}{to:TE}{t:TA}{name:Str}{apos cpos:Pos}{T id:String}{r:V->List V->Hp->VK->Prop}
theorem jz2(pa:PlainAttrs T)(slot:Slot T name id)(hty:typeOf (.builtin id)=pure (.type "method_descriptor"))(hm:MtR X id r)(ho:PE X o to)(ha:PA X (e::es) t)
  (hbase:autoParam (attributeBase o name X.env (eval o X.env)=eval o X.env) zau2._auto_1)
  (hfew:((backTo cpos (starEach (e::es) X.env)).all (fun x=>!x.1)&&(backToKw cpos (keywordEach [] X.env)).all (fun x=>x.1.isSome)
   && decide ((e::es).length+([]:List Keyword).length+(if ([]:List Keyword).isEmpty then 0 else 1)<30))=true:=by rfl)
  (hline:autoParam ((apos.endLine == cpos.line)=true) zau2._auto_1) (hs:autoParam (starEach (e::es) X.env=(false,eval e X.env)::starEach es X.env) zau2._auto_1) (hplain:autoParam ((backTo cpos (starEach es X.env)).any (·.1)=false) zau2._auto_1) :
  PE X (.Call (.Attribute o name apos) (e::es) [] cpos) (tBM X.K T r to t):=by
 intro U s Z H Q I h;refine wpAny_Call_method_late hbase hfew hline rfl (thn (ho U s Z H _ I h) fun v s1 hzz=>?_);obtain⟨x,H1,I1,r1,ty,q1⟩:=hzz;obtain⟨h1,h2⟩:=jEq I1 r1 ty;refine⟨T,id,pa,slot,hty,h1,h2,?_⟩;have hA:=ha cpos U s1 Z H1 _ I1 q1;rw[hs] at hA |-
 refine Calls.callWith_builtin (by show (false || (backTo cpos (starEach es X.env)).any (·.1))=false;rw[hplain]<;>rfl) (Calls.evalArgs_plain ?_);exact thn hA fun us s2 ⟨vs,H2,I2,r2,q2⟩=>hm U s2 Z H2 x vs v us Q I2 r1 r2 q2
end
def MtM(X:Cx)(id:String)(r:V->List V->Hp->VK->Prop):Prop :=
 ∀ (U:qd) (s:Shared) (Z:St) (H:Hp) (x:V) (xs:List V) (v:Value) (us:List Value) (Q:VK),Inv X U Z H s->RelV x v->Vals xs us->r x xs H Q ->
  wpAny (model X.prog X.w) X.A (call (.builtin id) (v::us)) (EP X U Z Q) X.xe s
theorem Vals.one:∀ {x:V} {us:List Value},Vals [x] us->∃ u,us=[u]/\RelV x u
 | _,_,.cons r .nil=>⟨_,rfl,r⟩
theorem Vals.two:∀ {x y:V} {us:List Value},Vals [x,y] us->∃ u v,us=[u,v]/\RelV x u/\RelV y v
 | _,_,_,.cons r (.cons q .nil)=>⟨_,_,rfl,r,q⟩
theorem Vals.rep{xs:List V}{us:List Value}(h:Vals xs us):∀ k:Nat,Vals (List.replicate k xs).flatten (List.replicate k us).flatten
 | 0=>.nil
 | k+1=>by
  rw[List.replicate_succ,List.replicate_succ,List.flatten_cons,List.flatten_cons];exact Vals.append h (Vals.rep h k)
theorem jkf(its:List Value):∀ (k:Nat) (acc:List Value),
  List.foldl (fun x1 x2=>x1++x2) acc.toArray (List.replicate k its.toArray)=(acc++(List.replicate k its).flatten).toArray
 | 0,acc=>by simp
 | k+1,acc=>by
  have e:acc.toArray++its.toArray=(acc++its).toArray:=by simp
  have e2:(acc++its)++(List.replicate k its).flatten=acc++(List.replicate (k+1) its).flatten:=by
   rw[List.replicate_succ,List.flatten_cons,List.append_assoc]
  rw[<- e2,<- jkf its k (acc++its),<- e,List.replicate_succ,List.foldl_cons]
section
variable {X:Cx}{U:qd}{Z:St}{H:Hp}{s:Shared}{l:Addr}{xs ys:List V}
theorem Inv.lset{its its':List Value}{n:Nat}{f:Array Value->Array Value}{t':Nat}(I:Inv X U Z H s)(hH:H l=some (.lst xs))
  (e:s.heap.get? l=some { cls:=.type "list",data:=.seq its.toArray n }) (hf:f its.toArray=its'.toArray) (hv:Vals ys its') (hz:ys.length<=sizeLine) :
  Inv X U Z (upd H l (.lst ys)) { s with heap:=s.heap.update l (Obj.mapSeq f),toks:=t' }:=by
 have q:=PySem.IsL.update e f;rw[hf] at q;refine I.write (x:=l) (e:=l) (by rw[hH];exact trivial) (.inl rfl) (fun b' u hb hu=>(Heap.get?_update_other s.heap (Obj.mapSeq f) (Ne.symm hb)).trans hu) ⟨_,q⟩ ?_;exact⟨hz,its',_,hv,q⟩
theorem Inv.lnew{its:List Value}{t':Nat}(I:Inv X U Z H s)(hv:Vals ys its)(hz:ys.length<=sizeLine) :
  Inv X U Z (upd H s.heap.objs.size (.lst ys)) { s with heap:=s.heap.push { cls:=.type "list",data:=.seq its.toArray },toks:=t' } :=
 I.laid (fun _ _ q=>zaz _ q) (zac _) ⟨hz,its,0,hv,zbv _ rfl⟩
theorem Inv.fresh(I:Inv X U Z H s):H s.heap.objs.size=none:=I.hok.fresh (zac _)
theorem Inv.lstM(I:Inv X U Z H s)(hH:H l=some (.lst xs)):xs.length<=sizeLine/\∃ (its:List Value) (n:Nat),Vals xs its/\xs.length=its.length/\s.heap.get? l=some { cls:=.type "list",data:=.seq its.toArray n }:=by
 obtain⟨z,its,n,r,e⟩:=I.hok l _ hH;exact⟨z,its,n,r,r.length,e⟩
theorem jwr{n:Nat}(h:n<=sizeLine):Builtin.List.listTooLong n=false:=by
 unfold Builtin.List.listTooLong;exact decide_eq_false (by omega)
end
section
variable {X:Cx}
def jAd:V->List V->Hp->VK->Prop:=fun x vs H Q=>∃ l xs y,x=.ref l/\vs=[y]/\H l=some (.lst xs)/\xs.length<sizeLine/\Q .non (upd H l (.lst (xs++[y])))
theorem jgd:MtM X "list.append" jAd:=by
 intro U s Z H x vs v us Q I rx rv h;obtain⟨l,xs,y,rfl,rfl,hH,hz,q⟩:=h;cases rx;obtain⟨u,rfl,ru⟩:=rv.one;obtain⟨z,its,n,r,hl,e⟩:=I.lstM hH;refine call_meets F.slot_list_append ⟨_,e,rfl⟩ F.entry_list_append (F.args_list_append_2 _ _) (PySem.list_append l its.toArray n u (by rw[zby];omega)) ⟨e,?_⟩;refine⟨.non,_,I.lset (its':=its++[u]) hH e (by simp) (r.append (.cons ru .nil)) ?_,rfl,q⟩;rw[zdb,List.length_singleton];omega
def rRep:R2:=fun x y H Q=>∃ l k xs,x=.ref l/\y=.int k/\H l=some (.lst xs)/\-(2 ^ 63)<=k/\k<2 ^ 63/\xs.length*k.toNat<=sizeLine /\
 ∀ p,H p=none->Q (.ref p) (upd H p (.lst (List.replicate k.toNat xs).flatten))
theorem jtx{α:Type}(xs:List α)(k:Nat):(List.replicate k xs).flatten.length=k*xs.length:=by
 induction k with
 | zero=>simp
 | succ k ih=>rw[List.replicate_succ,List.flatten_cons,zdb,ih,Nat.succ_mul,Nat.add_comm]
theorem jDc:OpR X (binaryOp .Mult) rRep:=by
 intro U s Z H x y v u Q I rx ry h;obtain⟨l,k,xs,rfl,rfl,hH,h1,h2,hz,q⟩:=h;cases rx;obtain⟨t,rfl⟩:=ry;obtain⟨z,its,n,r,hl,e⟩:=I.lstM hH;have hlen:its.toArray.size*k.toNat<=sizeLine:=by rw[zby,<- hl];exact hz
 have hcap:¬ its.toArray.size*k.toNat > (2 ^ 63-1) / 8:=by
  have:(sizeLine:Nat)<=(2 ^ 63-1) / 8:=by decide
  omega
 have hfit:¬ (!Builtin.List.listFitsIndex k)=true:=by
  rw[fitsIndex_both h1 h2];exact Bool.false_ne_true
 have hlong:¬ Builtin.List.listTooLong (its.toArray.size*k.toNat)=true:=by
  rw[jwr hlen];exact Bool.false_ne_true
 have hnew:List.foldl (fun x1 x2=>x1++x2) #[] (List.replicate (if its.toArray.isEmpty=true then 0 else k.toNat) its.toArray)=(List.replicate k.toNat its).flatten.toArray:=by
  have f0:∀ m:Nat,List.foldl (fun x1 x2=>x1++x2) #[] (List.replicate m its.toArray)=(List.replicate m its).flatten.toArray:=fun m=>by
   have:=jkf its m [];rw[List.nil_append] at this;exact this
  rw[f0]
  cases its with
  | nil=>simp
  | cons a r'=>rw[if_neg (by simp)]
 refine wpAny_binaryOp_repeat_ref (T:="list") (U:="int") (by decide) ⟨_,e,rfl⟩ (fun s'=>typeIs_int s' k t) noFill_list_mul F.fills_int_mul F.slot_int_rmul repeat_list F.slot_int_index.lookup
  (call_meets F.slot_int_rmul (typeIs_int s k t) F.entry_int_rmul (F.args_int_rmul_2 _ _) (int___rmul___int_list k t l its.toArray n)
   ⟨e,rfl,⟨_,e,rfl⟩,call_meets F.slot_list_mul ⟨_,e,rfl⟩ F.entry_list_mul (F.args_list_mul_2 _ _) (AutoListH.list___mul___list_int_3 l its.toArray n k t hfit hcap hlong) ⟨e,?_⟩⟩)
 rw[hnew];exact⟨.ref _,_,I.lnew (t':=s.toks) (r.rep k.toNat) (by rw[jtx,Nat.mul_comm];exact hz),rfl,q _ I.fresh⟩
end
section
end
section
end
end L2
namespace Att
open PySem PySem.W PySem.Calls PyProof.Rows
theorem jkk{P:Params}{h:Heap}:∀ (ns:List Int) (vs:List Value),WellAll P h vs (ns.map WData.int)->IntsAre vs ns:=by
 intro ns
 induction ns with
 | nil =>
  intro vs w;rw[List.map_nil] at w;cases w;exact .nil
 | cons n ns ih =>
  intro vs w;rw[List.map_cons] at w
  cases w with
  | cons a b =>
   cases a;exact .cons _ _ (ih _ b)
theorem ju5{l:OpenLaw}{n:Nat}(hn:l.most=some n){P:Params}{h:Heap}{args:List WData}{vals:List Value}
  (hpre:l.row.toRowW.claim.pre args=true) (hwl:WellAll P h vals args) :
  ∃ a vs ns,vals=[Value.ref a]/\args=[WData.list (ns.map WData.int)]/\h.get? a=some { cls:=.type "list",data:=.seq vs.toArray }/\IntsAre vs ns/\ns.length<=n:=by
 have hsh:WShape.hasAll [] args [.list .int]=true:=(pre_splitW hpre).1;have hc:l.pre.holds [] { args:=args }=true:=(pre_splitW hpre).2;obtain⟨d,r,rfl,h1,h2⟩:=hasAllW_cons hsh;obtain rfl:=hasAllW_nil h2;obtain⟨xs,rfl,h3⟩:=hasW_list h1;obtain⟨ns,rfl⟩:=items_int h3;have hlen:ns.length<=n:=by
  unfold OpenLaw.pre at hc;have h4:(WTm.not (.lt (.lit (.int (n:Int))) (.len (.arg 0)))).holds [] { args:=[.list (ns.map .int)] }=true:=by
   have h4:=(holds_andW hc).1;rw[hn] at h4;exact h4
  have h5:=condW_of h4 (w_not (w_lt w_lit (w_len_list (w_arg rfl))));rw[zav] at h5;refine Nat.le_of_not_lt fun q=>?_
  have q':(n:Int)<((ns.length:Nat):Int):=by omega
  first
   | (rw[decide_eq_true q'] at h5;exact absurd h5 (by decide))
   | (simp at h5;omega)
 cases hwl with
 | cons w1 w2 =>
  cases w2
  cases w1 with
  | list ho hall=>exact⟨_,_,ns,rfl,rfl,ho,jkk ns _ hall,hlen⟩
theorem jur(l:OpenLaw)(args:List WData):l.row.toRowW.claim.post args (.bool true) args=true :=
 postW_of (r:=l.row.toRowW) (X:=(true == true))
  (show WShape.has [] (.bool true) .bool=true by first|rfl|decide|simp[WShape.has,WShape.arms,WShape.armsAll])
  (show (WTm.eq .res (.lit (.bool true))).value [] { args:=args,res:=some (.bool true),after:=args }=some (.bool (true == true)) from w_eq_bool (w_res rfl) w_lit) rfl
theorem attach_call{l:OpenLaw}{n:Nat}{q:Program}{loose:List Str}{XP:(qc)->Heap->Prop}{YP:World->Heap->Prop}{d:DefRec}
  (hn:l.most=some n) (hdf:d.params.defaults=[])
  (call:∀ (w:World) (s₀ s₁:Shared) (mg mb:qc) (fa:Addr) (o:Obj) (pm cd doc:Value) (a:Addr) (vs:List Value) (ns:List Int),
   Ground q loose [] XP w s₀ mg mb s₁.heap->YP w s₁.heap ->
   s₁.heap.get? fa=some o->o.data=.func (docDef d.name d.params d.body d.scope pm cd doc)->s₁.heap.CodeRec cd d.name->mg d.name=some (.ref fa) ->
   s₁.heap.get? a=some { cls:=.type "list",data:=.seq vs.toArray }->IntsAre vs ns->ns.length<=n->s₁.gens=#[] ->
   codeAny (model l.prog w) callerA (.call (.ref fa) ⟨[.ref a],[]⟩) (fun r s'=>r=.ok (.ret (.bool true))/\OldK s₁.heap s'.heap/\s'.os=s₁.os/\AllBare s'.gens) s₁) :
  WalkO q loose XP YP l.row.toRowW d [] (fun f vs=>PySem.call f vs):=by
 intro w s₀ s₁ mg mb G Yq fa o pm cd doc dV kV ho hd hcd hD hmg hg args vals as hpre hlay hrd hwl hlo;obtain rfl:dV=.none:=Dflts.none hD hdf;obtain rfl:kV=.none:=Dflts.noKw hD;obtain⟨a,vs,ns,rfl,rfl,hobj,hints,hlen⟩:=ju5 hn hpre hwl;refine enter_call (codeAny_mono (call w s₀ s₁ mg mb fa o pm cd doc a vs ns G Yq ho (fd_plain hd) hcd hmg hobj hints hlen hg) fun r s' hq=>?_);obtain⟨rfl,h2,h3,h4⟩:=hq;exact⟨.inl ⟨.bool true,.bool true,[],rfl,fun _=>rfl,.bool true,jur l _,fun _=>⟨List.Pairwise.nil,fun _ hm=>(nomatch hm)⟩⟩,h2,h3,h4⟩
section
end
end Att
namespace L2
open PyProof.Rows
theorem jov:∀ {vs:List Value} {ns:List Int},IntsAre vs ns->Vals (ns.map V.int) vs
 | _,_,.nil=>.nil
 | _,_,.cons n t h=>.cons ⟨t,rfl⟩ (jov h)
def Only(H:Hp):Prop:=∀ b,H b=none\/∃ o xs,H b=some (.frz o (.lst xs))
theorem jwj{P:Program}{w:World}{K:W.Frag}{mg mb:qc}{CX:CXT}{k:Nat}{fa a:Addr}{fd:FuncData}{x:Str}{sp:Sp}{s₁:Shared}{vs:List Value}{ns:List Int}
  (KX:K.In s₁.heap) (hns:s₁.heap.Ns mainGlobals mg) (hb:s₁.heap.Ns builtinsNs mb) (hbb:∀ x:Str,x≠"__name__"->mb x=bootBuiltins x) (hlim:s₁.heap.NoLimit) (hg:s₁.gens=#[])
  (ha:s₁.heap.get? a=some { cls:=.type "list",data:=.seq vs.toArray }) (hi:IntsAre vs ns) (hl:ns.length<=sizeLine) (hr:Room k callerA)
  (F:∀ base:Heap,K.In base->base.Ns mainGlobals mg->FnOk P w K mg base CX k fa fd [x] sp) (hbind:∀ (s:Shared) (u:Value),BindsTo s fd ⟨[u],[]⟩ [(x,u)])
  (hsp:∀ H:Hp,Only H->SqL K H a (ns.map V.int)->sp [.ref a] H (fun v _=>v=.bl true) fun _ _ _=>False)
  (hCX:∀ H e s',CX [] H s₁ (fun _ _ _=>False) e s'->False) :
  codeAny (model P w) callerA (.call (.ref fa) ⟨[.ref a],[]⟩) (fun r s'=>r=.ok (.ret (.bool true))/\OldK s₁.heap s'.heap/\s'.os=s₁.os/\AllBare s'.gens) s₁:=by
 have rv:=jov hi;have lenV:=hi.length;have core:∀ H:Hp,Only H->SqL K H a (ns.map V.int)->HOk P w H s₁.heap->(∀ b,H b≠none->b=a)->(H a≠none->K.lookup a=none) ->
   codeAny (model P w) callerA (.call (.ref fa) ⟨[.ref a],[]⟩) (fun r s'=>r=.ok (.ret (.bool true))/\OldK s₁.heap s'.heap/\s'.os=s₁.os/\AllBare s'.gens) s₁:=by
  intro H hO hS hok hA hK;have base_of:∀ {b:Addr} {o:Obj},s₁.heap.get? b=some o->H b=none->(hidT s₁.heap H).get? b=some o:=fun e n=>jwc e n
  have noA:∀ {b:Addr} {o:Obj} {es:Array DictEntry} {ep:Nat},s₁.heap.get? b=some o->o.data=.dict es ep->H b=none:=fun {b o es ep} e d=>by
   cases q:H b with
   | none=>rfl
   | some u =>
    have e':b=a:=hA b (by rw[q];simp);subst e';rw[ha] at e;cases e
    have d':Data.seq vs.toArray _=Data.dict es ep:=d;cases d'
  have nsK:∀ {b:Addr} {m:qc},s₁.heap.Ns b m->(hidT s₁.heap H).Ns b m:=fun {b m} ⟨o,es,ep,e,d,r⟩=>⟨o,es,ep,base_of e (noA e d),d,r⟩
  have hKb:K.In (hidT s₁.heap H):=fun b o e=>base_of (KX b o e) (by
   cases q:H b with
   | none=>rfl
   | some u =>
    have e':b=a:=hA b (by rw[q];simp);subst e';rw[hK (by rw[q];simp)] at e;cases e)
  have hM:Mod K mg (hidT s₁.heap H):=⟨hKb,nsK hns,⟨mb,nsK hb,hbb⟩,let ⟨mc,h1,h2⟩:=hlim;⟨mc,nsK h1,h2⟩⟩
  have e0:Env0 P w K mg (hidT s₁.heap H) callerA [] s₁ H:=⟨rfl,hM,fun b o e=>jzv e,Nat.le_of_eq (jti _ _),trivial,fun b hb=>absurd (show b∈([]:List Addr) from hb) (by simp),hok,.of_eq hg⟩
  refine codeAny_mono ((F _ hKb (nsK hns)).run callerA [] s₁ H ⟨[.ref a],[]⟩ [.ref a] [.ref a] _ _ hr e0 (hbind s₁ (.ref a)) (.cons rfl .nil) (hsp H hO hS)) fun r s' h=>?_
  cases r with
  | error e=>exact (hCX H e s' h).elim
  | ok fl =>
   cases fl with
   | next=>exact False.elim h
   | brk=>exact False.elim h
   | cont=>exact False.elim h
   | ret u =>
    obtain⟨v,H',os,bare,un,hok',r',q⟩:=h;have q':v=.bl true:=q;subst q';obtain rfl:u=Value.bool true:=r';refine⟨rfl,OldK.of_keep fun b o e=>?_,os,bare⟩
    cases q:H b with
    | none=>exact un.keep b o e q (by intro z;exact absurd (show b∈([]:List Addr) from z) (by simp)) (by simp)
    | some u =>
     rcases hO b with z|⟨ob,xs,z⟩
     ·rw[q] at z;cases z
     ·have z2:=un.frzs b ob _ z;obtain⟨e1,_⟩:=hok b _ z;obtain⟨e2,_⟩:=hok' b _ z2;rw[e] at e1;cases e1
      exact e2
 cases hk:K.lookup a with
 | some o =>
  have e:=KX a o hk;rw[ha] at e;cases e;refine core (fun _=>none) (fun _=>.inl rfl) (.inr ⟨_,vs.toArray,_,hk,rfl,rfl,rfl,by rw[zby,lenV];exact hl,by simpa using rv⟩) (fun b u z=>by have z':(none:Option HO)=some u:=z;cases z') (fun b z=>absurd rfl z) fun z=>absurd rfl z
 | none =>
  refine core (fun b=>if b=a then some (.frz { cls:=.type "list",data:=.seq vs.toArray } (.lst (ns.map V.int))) else none) (fun b=>?_) (.inl (.inr ⟨{ cls:=.type "list",data:=.seq vs.toArray },if_pos rfl⟩)) (fun b u z=>?_) (fun b z=>?_) fun _=>hk
  ·by_cases hb:b=a
   ·exact .inr ⟨_,_,if_pos hb⟩
   ·exact .inl (if_neg hb)
  ·by_cases hb:b=a
   ·have z':=(if_pos hb).symm.trans z;cases z';subst hb;exact⟨ha,by rw[zav];exact hl,vs,_,rv,ha⟩
   ·have z':=(if_neg hb).symm.trans z;cases z'
  ·by_cases hb:b=a
   ·exact hb
   ·exact absurd (if_neg hb) z
theorem walk_of{l:W.OpenLaw}{n k:Nat}{q:Program}{loose:List Str}{XP:(qc)->Heap->Prop}{YP:World->Heap->Prop}{d:DefRec}{K:Params->W.Frag}{CX:World->CXT}{sp:World->Sp}{x:Str}
  (hn:l.most=some n) (hn2:n<=sizeLine) (hdf:d.params.defaults=[]) (hr:Room k callerA)
  (hY:∀ (w:World) (h:Heap),YP w h->(K w.params).In h)
  (F:∀ (w:World) (mg:qc) (fa:Addr) (h:Heap),(K w.params).In h->h.Ns mainGlobals mg->mg d.name=some (.ref fa) ->
   ∃ fd:FuncData,(∀ (s:Shared) (u:Value),BindsTo s fd ⟨[u],[]⟩ [(x,u)]) /\
    ∀ base:Heap,(K w.params).In base->base.Ns mainGlobals mg->FnOk l.prog w (K w.params) mg base (CX w) k fa fd [x] (sp w))
  (hsp:∀ (w:World) (H:Hp) (a:Addr) (ns:List Int),ns.length<=n->Only H->SqL (K w.params) H a (ns.map V.int)->sp w [.ref a] H (fun v _=>v=.bl true) fun _ _ _=>False)
  (hCX:∀ (w:World) (H:Hp) (s:Shared) (e:Value) (s':Shared),CX w [] H s (fun _ _ _=>False) e s'->False) :
  W.WalkO q loose XP YP l.row.toRowW d [] (fun f vs=>PySem.call f vs):=by
 refine Att.attach_call hn hdf fun w s₀ s₁ mg mb fa o pm cd doc a vs ns G Yq ho hd hcd hmg hobj hints hlen hg=>?_
 have KX:=hY w _ Yq;obtain⟨fd,hb,hF⟩:=F w mg fa _ KX G.T.g hmg;exact jwj KX G.T.g G.T.b G.T.builtins G.T.nolimit hg hobj hints (zez hlen hn2) hr hF hb (fun H hO hS=>hsp w H a ns hlen hO hS) fun H e s'=>hCX w H s₁ e s'
noncomputable def jdj(s:Stmt):Arguments:=match s with
 | .FunctionDef _ a _ _ _ _ _ _ _ _=>a
 | _=>{ posonlyargs:=[],args:=[],vararg:=none,kwonlyargs:=[],kw_defaults:=[],kwarg:=none,defaults:=[] }
noncomputable def jbp(s:Stmt):List Stmt:=match s with
 | .FunctionDef _ _ b _ _ _ _ _ _ _=>b
 | _=>[]
noncomputable def jae(s:Stmt):Scope:=match s with
 | .FunctionDef _ _ _ _ _ _ sc _ _ _=>sc
 | _=>{ kind:=.function,names:=[],isGenerator:=false,isCoroutine:=false }
noncomputable abbrev CX0:CXT:=fun _ _ _ _ _ _=>False
noncomputable abbrev E0:XK:=fun _ _ _=>False
structure Fun(K:W.Frag)(x qual:Str)(st:Stmt)(f:Addr)(fd:FuncData):Prop where
 ex:∃ (oc:Value) (od:Option Addr) (kV doc pm:Value) (an:Option Addr) (cdv ct:Value) (osl:qg),
  fd=W.fnOf x qual (jdj st) (jbp st) (jae st) .none kV doc pm an cdv ct/\K.lookup f=some ⟨oc,od,.func fd,osl⟩/\W.codeIn K cdv qual=true
 kp:W.keepIn K (.ref f)=true
section
variable {P:Program}{w:World}{K:W.Frag}{mg:qc}{base:Heap}
theorem Fun.ok{x qual:Str}{st:Stmt}{f:Addr}{fd:FuncData}{N ps:List Str}{k:Nat}{sp:Sp}(F:Fun K x qual st f fd)(S:FnScope N ps (jae st))(len:∀ vs H Q E,sp vs H Q E->vs.length=ps.length)
  (hbody:∀ (cdv:Value) (A:Around) (outer:List Env) (s:Shared) (H:Hp) (vs:List V) (Q:VK) (E:XK),Room k (A.deeper (envOfC qual (jae st) s.heap.objs.size f cdv))->sp vs H Q E ->
   ∃ t,PSs (cxOf CX0 P w K mg base N qual (jae st) f cdv A outer s H E).nox (jbp st) t/\t { nx:=fun _ H'=>Q .non H',rt:=Q } (start N vs) H):FnOk P w K mg base CX0 (k+1) f fd ps sp:=by
 obtain⟨oc,od,kV,doc,pm,an,cdv,ct,osl,rfl,lk,hcd⟩:=F.ex;refine jFq lk hcd S len fun A outer s H vs Q E hr hsp=>?_
 obtain⟨t,h,q⟩:=hbody cdv A outer s H vs Q E hr hsp;exact⟨t,h.nox,q⟩
theorem Fun.binds{x qual:Str}{st:Stmt}{f:Addr}{fd:FuncData}{ps:List Str}(F:Fun K x qual st f fd)
  (h:∀ (kV doc pm:Value) (an:Option Addr) (cdv ct:Value) (us:List Value),us.length=ps.length->bindArgs (W.fnOf x qual (jdj st) (jbp st) (jae st) .none kV doc pm an cdv ct) ⟨us,[]⟩=pure (ps.zip us)):Binds K fd ps []:=by
 obtain⟨oc,od,kV,doc,pm,an,cdv,ct,osl,rfl,lk,hcd⟩:=F.ex;exact .all (h kV doc pm an cdv ct)
theorem jB2{x qual:Str}{st:Stmt}{f:Addr}{oc:Value}{od an:Option Addr}{osl:qg}{kV doc pm cdv ct:Value}(l:K.lookup f=some ⟨oc,od,.func (W.fnOf x qual (jdj st) (jbp st) (jae st) .none kV doc pm an cdv ct),osl⟩)
  (c:W.codeIn K cdv qual=true) (k:W.keepIn K (.ref f)=true):Fun K x qual st f (W.fnOf x qual (jdj st) (jbp st) (jae st) .none kV doc pm an cdv ct):=⟨⟨oc,od,kV,doc,pm,an,cdv,ct,osl,rfl,l,c⟩,k⟩
end
section
end
theorem iteF{A B:Prop}(h:B):if false=true then A else B:=by
 rw[if_neg Bool.false_ne_true];exact h
theorem iteT{A B:Prop}(h:A):if true=true then A else B:=by
 rw[if_pos rfl];exact h
def Same(H H':Hp):Prop:=∀ b o,H b=some o->H' b=some o
theorem Same.refl(H:Hp):Same H H:=fun _ _ h=>h
theorem Same.trans{H H1 H2:Hp}(a:Same H H1)(b:Same H1 H2):Same H H2:=fun c o h=>b c o (a c o h)
end L2
set_option maxHeartbeats 4000000
namespace L2
open PyProof.Rows
theorem ffk:(NameKind.free == NameKind.free)=true:=by decide
noncomputable def clOf(cells:List (Str×Addr)):List (Str×NameKind)->List (Str×Addr)->List (Str×Addr)
 | [],acc=>acc
 | (n,k)::r,acc=>clOf cells r (if k == .free then (n,(cells.lookup n).getD 0)::acc else acc)
theorem jsv{env:Env}:∀ (ns:List (Str×NameKind)) (acc:List (Str×Addr)),(∀ p∈ns,p.2=.free->∃ c,env.cells.lookup p.1=some c) ->
  (forIn ns acc fun p cs=>(if p.2 == NameKind.free then (do let a <- cellOf env p.1;pure (ForInStep.yield ((p.1,a)::cs))) else pure (ForInStep.yield cs):Sem (ForInStep (List (Str×Addr)))))=pure (clOf env.cells ns acc)
 | [],acc,_=>by rw[List.forIn_nil];rfl
 | (n,k)::r,acc,h=>by
  rw[List.forIn_cons]
  by_cases hk:k=.free
  ·subst hk;obtain⟨c,hc⟩:=h (n,.free) zaa rfl;have e1:cellOf env n=pure c:=by unfold cellOf;rw[hc]
   show (do let a <- cellOf env n;pure (ForInStep.yield ((n,a)::acc)):Sem _) >>= _=_;rw[e1];show (forIn r ((n,c)::acc) _:Sem _)=_;rw[jsv r _ fun p hp=>h p (zaw _ hp)];show _=pure (clOf env.cells r (if NameKind.free == NameKind.free then _ else _));have hc':env.cells.lookup n=some c:=hc;rw[if_pos ffk,hc'];rfl
  ·have e2:(k == NameKind.free)=false:=by simpa using hk
   show (if (k == NameKind.free)=true then _ else _:Sem _) >>= _=_;rw[if_neg (by rw[e2];decide)];show (forIn r acc _:Sem _)=_;rw[jsv r _ fun p hp=>h p (zaw _ hp)];show _=pure (clOf env.cells r (if (k == NameKind.free)=true then _ else _));rw[if_neg (by rw[e2];decide)]
theorem jis{scope:Scope}{env:Env}(h:∀ p∈scope.names,p.2=.free->∃ c,env.cells.lookup p.1=some c):closureFor scope env=pure (clOf env.cells scope.names []):=by
 unfold closureFor;have e:=jsv (env:=env) scope.names [] h;show (forIn scope.names ([]:List (Str×Addr)) _ >>= fun r=>pure r:Sem _)=_;have e':(forIn scope.names ([]:List (Str×Addr)) fun (p:Str×NameKind) (cs:List (Str×Addr))=>(if p.2 == NameKind.free then (do let a <- cellOf env p.1;pure (ForInStep.yield ((p.1,a)::cs))) else pure (ForInStep.yield cs):Sem (ForInStep (List (Str×Addr))))) >>= (fun r=>(pure r:Sem _))=pure (clOf env.cells scope.names []):=by rw[e];rfl
 exact e'
theorem jjo{cells:List (Str×Addr)}{x:Str}{c:Addr}:∀ (ns:List (Str×NameKind)) (acc:List (Str×Addr)),(clOf cells ns acc).lookup x=some c->acc.lookup x=some c\/((x,NameKind.free)∈ns/\c=(cells.lookup x).getD 0)
 | [],acc,h=>.inl h
 | (n,k)::r,acc,h=>by
  rcases jjo r _ h with e|⟨e1,e2⟩
  ·by_cases hk:k=.free
   ·subst hk;rw[if_pos ffk,List.lookup_cons] at e
    cases hx:x == n with
    | true =>
     rw[hx] at e;have:x=n:=by simpa using hx
     subst this;exact .inr ⟨zaa,(zbz e).symm⟩
    | false=>rw[hx] at e;exact .inl e
   ·rw[if_neg (by simpa using hk)] at e;exact .inl e
  ·exact .inr ⟨zaw _ e1,e2⟩
theorem jqe{cells:List (Str×Addr)}{x:Str}:∀ (ns:List (Str×NameKind)) (acc:List (Str×Addr)),acc.lookup x=some ((cells.lookup x).getD 0)->(clOf cells ns acc).lookup x=some ((cells.lookup x).getD 0)
 | [],acc,h=>h
 | (n,k)::r,acc,h=>by
  refine jqe r _ ?_
  by_cases hk:k=.free
  ·subst hk;rw[if_pos ffk,List.lookup_cons]
   cases hx:x == n with
   | true =>
    have:x=n:=by simpa using hx
    subst this;rfl
   | false=>exact h
  ·rw[if_neg (by simpa using hk)];exact h
theorem jh0{cells:List (Str×Addr)}{x:Str}:∀ (ns:List (Str×NameKind)) (acc:List (Str×Addr)),(x,NameKind.free)∈ns->(clOf cells ns acc).lookup x=some ((cells.lookup x).getD 0)
 | [],acc,h=>by cases h
 | (n,k)::r,acc,h=>by
  rcases List.mem_cons.mp h with e|e
  ·cases e;refine jqe r _ ?_;rw[if_pos ffk,List.lookup_cons];simp
  ·exact jh0 r _ e
def jbd(X:Cx)(scope:Scope)(N:List Str)(C:Addr)(s0:Shared)(H0:Hp)(ex:List Addr):Cx where
 prog:=X.prog
 w:=X.w
 K:=X.K
 mg:=X.mg
 base:=X.base
 A:=X.A
 N:=N
 s₀:=s0
 Hz:=H0
 env:=compEnvC scope (clOf X.env.cells scope.names []) C X.env
 outer:=X.stack
 stack:=X.stack
 ex:=ex
 fn:=fun _=>false
 calm:=X.calm
 pn:=[]
 xe:=fun _ _=>False
noncomputable def jxu(N:List Str)(out:List (Str×NameKind))(inn:List (Str×NameKind))(caps:qh):Bool :=
 inn.all (fun p=>p.2 != .cell)&&inn.all (fun p=>p.2 != .local || inn.lookup p.1 == some .local) &&
 inn.all (fun p=>p.2 != .free || (out.lookup p.1 == some .cell || out.lookup p.1 == some .free)) &&
 caps.all (fun p=>N[p.2]? == some p.1&&inn.lookup p.1 == some .free)
structure CapsOk(X:Cx)(scope:Scope)(caps:qh):Prop where
 kind:scope.kind=.function
 nocell:∀ x∈scope.names,x.2≠.cell
 loc:∀ x∈scope.names,x.2=.local->scope.names.lookup x.1=some .local
 fre:∀ p∈scope.names,p.2=.free->X.env.kindOf p.1=some .cell\/X.env.kindOf p.1=some .free
 cap:∀ p∈caps,X.N[p.2]? = some p.1/\scope.names.lookup p.1=some .free
theorem jbg{X:Cx}{scope osc:Scope}{N:List Str}{caps:qh}(hN:X.N=N)(ho:X.env.scope=osc)(hk:scope.kind=.function)(h:jxu N osc.names scope.names caps=true):CapsOk X scope caps:=by
 unfold jxu at h;simp only[Bool.and_eq_true,List.all_eq_true] at h;obtain⟨⟨⟨h1,h2⟩,h3⟩,h4⟩:=h;refine⟨hk,fun x hx=>by simpa using h1 x hx,fun x hx hl=>?_,fun p hp hf=>?_,fun p hp=>?_⟩
 ·have:=h2 x hx;rw[hl] at this;simpa using this
 ·have:=h3 p hp;rw[hf] at this;show X.env.scope.names.lookup p.1=_\/X.env.scope.names.lookup p.1=_;rw[ho];simpa using this
 ·have:=h4 p hp;rw[hN];simpa using this
noncomputable def jbq(own:Nat)(caps:qh)(Z:St):St:=List.replicate own none++caps.map fun p=>(Z[p.2]?).join
def jsb(own:Nat)(caps:qh)(wi:TI)(g:TG)(tc:TT)(te:TE):TE:=fun Z H Q=>wi Z H fun Jq H1=>∀ D,H1 D=none ->
 ∃ W:Nat->Nat->St->Hp->Prop,(∃ m,W 0 m (jbq own caps Z) (upd H1 D (.lst [])))/\∀ i m Z' H',W i m Z' H' ->
  (Jq.stop i H'/\Q (.ref D) H')\/(Jq.go i H'/\∃ N:St->Hp->Prop,(∀ Z2 H2,N Z2 H2->∃ m',m'<m/\W (i+1) m' Z2 H2) /\
   ∀ x H2,Jq.yld i H' x H2->g x Z' H2 fun Z3 H3=>tc Z3 H3 fun b H4=>if b=true then te Z3 H4 fun v H5=>∃ ys,H5 D=some (.lst ys)/\ys.length<sizeLine/\N Z3 (upd H5 D (.lst (ys++[v]))) else N Z3 H4)
theorem jeq{scope:Scope}{env:Env}{x:Str}{k:NameKind}:∀ {ns:List (Str×NameKind)},(ns.map fun (n,k)=>if (k == NameKind.free&&env.scope.kind == .function&&env.kindOf n == some .cell) then (n,NameKind.cell) else (n,k)).lookup x=some k ->
  ∃ k',ns.lookup x=some k'/\(k=k'\/(k'=.free/\k=.cell))
 | [],h=>by simp at h
 | (n,k0)::r,h=>by
  rw[List.map_cons] at h
  by_cases hc:(k0 == NameKind.free&&env.scope.kind == .function&&env.kindOf n == some .cell)=true
  ·simp only[if_pos hc,List.lookup_cons] at h
   cases hx:x == n with
   | true =>
    rw[hx] at h;refine⟨k0,by simp[List.lookup_cons,hx],.inr ⟨?_,(zbz h).symm⟩⟩;simp only[Bool.and_eq_true] at hc;simpa using hc.1.1
   | false =>
    rw[hx] at h;obtain⟨k',e,q⟩:=jeq (scope:=scope) h;exact⟨k',by simp only[List.lookup_cons,hx];exact e,q⟩
  ·simp only[if_neg hc,List.lookup_cons] at h
   cases hx:x == n with
   | true =>
    rw[hx] at h;exact⟨k0,by simp[List.lookup_cons,hx],.inl (zbz h).symm⟩
   | false =>
    rw[hx] at h;obtain⟨k',e,q⟩:=jeq (scope:=scope) h;exact⟨k',by simp only[List.lookup_cons,hx];exact e,q⟩
theorem jep{env:Env}{x:Str}:∀ {ns:List (Str×NameKind)},ns.lookup x=some .free ->
  (ns.map fun (n,k)=>if (k == NameKind.free&&env.scope.kind == .function&&env.kindOf n == some .cell) then (n,NameKind.cell) else (n,k)).lookup x=some .cell \/
  (ns.map fun (n,k)=>if (k == NameKind.free&&env.scope.kind == .function&&env.kindOf n == some .cell) then (n,NameKind.cell) else (n,k)).lookup x=some .free
 | [],h=>by simp at h
 | (n,k0)::r,h=>by
  rw[List.map_cons];simp only[List.lookup_cons] at h
  by_cases hc:(k0 == NameKind.free&&env.scope.kind == .function&&env.kindOf n == some .cell)=true
  ·simp only[if_pos hc,List.lookup_cons]
   cases hx:x == n with
   | true=>exact .inl rfl
   | false=>rw[hx] at h;exact jep h
  ·simp only[if_neg hc,List.lookup_cons]
   cases hx:x == n with
   | true=>rw[hx] at h;exact .inr h
   | false=>rw[hx] at h;exact jep h
theorem jnx{own:Nat}{caps:qh}{Z:St}{i:Nat}{v:V}(h:(jbq own caps Z)[i]? = some (some v)):∃ p,caps[i-own]? = some p/\own<=i/\Z[p.2]? = some (some v):=by
 unfold jbq at h
 by_cases hi:i<own
 ·rw[List.getElem?_append_left (by simpa using hi),List.getElem?_replicate,if_pos hi] at h;cases h
 ·rw[List.getElem?_append_right (by simpa using hi),List.length_replicate,zbb] at h
  cases e:caps[i-own]? with
  | none=>rw[e] at h;cases h
  | some p =>
   rw[e] at h;refine⟨p,rfl,by omega,?_⟩;have h':(Z[p.2]?).join=some v:=zbz h
   cases q:Z[p.2]? with
   | none=>rw[q] at h';cases h'
   | some o=>rw[q] at h';exact congrArg some h'
section
variable {X:Cx}{U:qd}{Z:St}{H:Hp}{s:Shared}
theorem jqu{scope:Scope}{own:List Str}{caps:qh}{h':Heap}{t':Nat}{fp:List Addr}(I:Inv X U Z H s)(ck:CapsOk X scope caps)
  (hf:∀ b∈fp,FpOk X U H b) (hb:∀ b∈fp,b<s.heap.objs.size) (ns:h'.Ns s.heap.objs.size fun x=>([]:List (Str×Value)).reverse.lookup x)
  (sb:Heap.SameBut s.heap.objs.size (s.heap.push { cls:=.type "dict",data:=.dict #[] }) h') :
  Inv (jbd X scope (own++caps.map (·.1)) s.heap.objs.size s H fp) [] (jbq own.length caps Z) H { s with heap:=h',toks:=t' }:=by
 have up:∀ b o,s.heap.get? b=some o->h'.get? b=some o:=fun b o e=>sb.extBut b o (zcb (zbw e)) (zaz _ e)
 have stk:∀ b∈fp,b∉frs X.stack:=fun b hb' z=>by
  obtain⟨_,f1,f2,_⟩:=hf b hb';rcases List.mem_cons.mp (I.stkSub b z) with q|q
  ·exact f1 q
  ·exact f2 q
 have clc:∀ x c,(clOf X.env.cells scope.names []).lookup x=some c->X.env.cells.lookup x=some c:=fun x c h=>by
  rcases jjo _ _ h with e|⟨e1,e2⟩
  ·cases e
  ·obtain⟨c',hc'⟩:=I.ok.has x (ck.fre _ e1 rfl);rw[hc'] at e2 |-
   exact congrArg some e2.symm
 have cell:∀ x c,(clOf X.env.cells scope.names []).lookup x=some c->∃ v,s.heap.IsCell c v:=fun x c h=>I.cell x c (clc x c h)
 have okk:(jbd X scope (own++caps.map (·.1)) s.heap.objs.size s H fp).Ok:=by
  refine⟨I.ok.mod,ck.kind,I.ok.glob,I.ok.blt,zac _,fun x y c h1 h2=>I.ok.inj x y c (clc x c h1) (clc y c h2),fun x hx=>?_,fun x c hfn=>?_,I.ok.hd,I.ok.frames,.inl rfl,fun b z=>⟨?_,fun x c h=>?_⟩,I.bs,
   zez I.ok.bsz I.sz,fun b o e z=>?_,stk,I.stack,I.stkFree⟩
  ·have hx':∃ k,(scope.names.map fun (n,k)=>if (k == NameKind.free&&X.env.scope.kind == .function&&X.env.kindOf n == some .cell) then (n,NameKind.cell) else (n,k)).lookup x=some k/\(k=.cell\/k=.free):=by
    rcases hx with q|q
    ·exact⟨_,q,.inl rfl⟩
    ·exact⟨_,q,.inr rfl⟩
   obtain⟨k,q,hk⟩:=hx';obtain⟨k',e,r⟩:=jeq (scope:=scope) q;have m:=PySem.mem_of_lookup e;have hfree:k'=.free:=by
    rcases r with r|r
    ·rcases hk with hk|hk
     ·exact absurd (r.symm.trans hk) (ck.nocell _ m)
     ·exact r.symm.trans hk
    ·exact r.1
   subst hfree;exact⟨_,jh0 _ _ m⟩
  ·cases hfn
  ·exact zcb (hb b z)
  ·exact (hf b z).2.2.2.2.1 x c (clc x c h)
  ·rcases (hf b z).2.2.2.1 with q|q
   ·exact I.ok.noex b o e q
   ·exact absurd (zcy (zbw e) (zez I.ok.bsz q)) (Nat.lt_irrefl _)
 refine⟨okk,rfl,I.bare,Un.kept up,⟨_,ns,fun i x v h1 h2 h3=>?_⟩,fun x c h=>?_,I.hok.fresh (zac _),fun x c h=>I.freeC x c (clc x c h),fun p hp=>absurd (show p∈([]:qd) from hp) (by simp),I.hok.kept up,?_⟩
 ·obtain⟨p,hp,hi,hv⟩:=jnx h2;have hx:p.1=x:=by
   have h1':(own++caps.map (·.1))[i]? = some x:=h1;rw[List.getElem?_append_right hi,zbb,hp] at h1';exact zbz h1'
  subst hx;obtain⟨cN,cf⟩:=ck.cap p (zdv hp);have mem:=PySem.mem_of_lookup cf;obtain⟨m,hn,hl⟩:=I.loc;have kf:=ck.fre _ mem rfl;obtain⟨u,r,l⟩:=hl p.2 p.1 v cN hv (by rcases kf with q|q;exact .inr (.inl q);exact .inr (.inr q));refine⟨u,r,.inr ?_⟩;rcases l with ⟨k,_⟩|⟨k,c,e,z⟩
  ·rcases kf with q|q<;>(rw[q] at k;cases k)
  ·refine⟨jep cf,c,?_,z.keeps up⟩;show (clOf X.env.cells scope.names []).lookup p.1=some c;rw[jh0 _ _ mem,e];rfl
 ·obtain⟨v,z⟩:=cell x c h;exact⟨v,z.keeps up⟩
 ·show (jbq own.length caps Z).length=(own++caps.map (·.1)).length;simp[jbq]
end
abbrev NoX:qe:=fun _ _=>False
theorem jwq{α:Type}{M:Model}{A:Around}{t:Sem α}{Q:α->Shared->Prop}{E:qe}{s:Shared}(h:wpAny M A t Q NoX s):wpAny M A t Q E s:=wpAny_mono h (fun _ _ q=>q) fun _ _ q=>q.elim
noncomputable abbrev ju9(ifs:List Expr)(env:Env):Sem Bool:=forIn ifs true fun c r=>if r=true then do let ok <- isTrue c env (eval c env);pure (ForInStep.yield ok) else pure (ForInStep.yield r)
section
variable {prog:Program}{w:World}{A:Around}{R:Result->Shared->Prop}{s:Shared}
theorem jf6{elt target iter:Expr}{ifs:List Expr}{scope:Scope}{pos:Pos}{it acc:Value}{env:Env}(Jq:Nat->Shared->Prop)
  (turn:∀ n s,Jq n s->wpAny (model prog w) A (pyNext it) (fun r s1=>match r with
   | none=>R (.ok .next) s1
   | some v=>wpAny (model prog w) A (letOwnedTupleGo target it v) (fun _ s2=>wpAny (model prog w) A (assign target env v) (fun _ s3=>wpAny (model prog w) A (ju9 ifs env) (fun ok s4 =>
     if ok=true then wpAny (model prog w) A (eval elt env) (fun x s5=>wpAny (model prog w) A (call (.builtin "list.append") [acc,x]) (fun _ s6=>∃ m,m<n/\Jq m s6) NoX s5) NoX s4
     else ∃ m,m<n/\Jq m s4) NoX s3) NoX s2) NoX s1) NoX s)
  (n:Nat) (h:Jq n s):codeAny (model prog w) A (.compLoop (.ListComp elt [⟨target,iter,ifs,0⟩] scope pos) 0 it acc env) R s:=by
 refine codeAny_loop rfl Jq (fun n s hJ=>?_) n h;show wpAny _ A ((compTurn (.ListComp elt [⟨target,iter,ifs,0⟩] scope pos) 0 it acc env).onRaise (fun x=>do noteFrame x env;theTreesLotGoes x)) _ _ s;refine wpAny_noted (jwq ?_);rw[compTurn_list];refine zay (wpAny_standAt (zay (thn (turn n s hJ) fun r s1 h1=>?_)))
 cases r with
 | none=>exact zab h1
 | some v =>
  refine zay (thn h1 fun _ s2 h2=>zay (thn h2 fun _ s3 h3=>zay (thn h3 fun ok s4 h4=>?_)))
  cases ok with
  | false =>
   rw[if_neg (by decide)] at h4
   first
    | exact zab ⟨rfl,h4⟩
    | exact zay (zab (zab ⟨rfl,h4⟩))
  | true =>
   rw[if_pos rfl] at h4
   first
    | exact zay (zay (thn h4 fun x s5 h5=>zay (thn h5 fun _ s6 h6=>zab (zab ⟨rfl,h6⟩))))
    | exact zay (thn h4 fun x s5 h5=>zay (thn h5 fun _ s6 h6=>zab ⟨rfl,h6⟩))
end
section
variable {X:Cx}
def PC0(X:Cx)(ifs:List Expr)(t:TT):Prop :=
 ∀ (U:qd) (s:Shared) (Z:St) (H:Hp) (Q:Bool->Hp->Prop),Inv X U Z H s->t Z H Q->wpAny (model X.prog X.w) X.A (ju9 ifs X.env) (TP X U Z Q) X.xe s
def jAv:TT:=fun _ H Q=>Q true H
theorem jz0:PC0 X [] jAv:=fun U s Z H Q I h=>wpAny_tests_nil ⟨H,I,h⟩
theorem jDf{c:Expr}{t:TT}(h:PT X c t):PC0 X [c] t:=fun U s Z H Q I hw=>wpAny_tests_one (h U s Z H Q I hw)
theorem jtk{P:Program}{w:World}{H:Hp}{h h':Heap}{C:Addr}(ok:HOk P w H h)(hC:H C=none)(sb:Heap.SameBut C h h'):HOk P w H h':=fun b ob e=>by
 refine (ok b ob e).stay (fun c u hc q=>(sb.2 c ?_).trans q) (fun _ q=>q) fun _ _ q=>q
 rintro rfl;rcases hc with rfl|hc
 ·rw[hC] at e;cases e
 ·rw[hC] at hc;cases hc
theorem jvd{fs ex:List Addr}{H H':Hp}{h h1 h2:Heap}{C:Addr}(u:Un fs ex H H' h h1)(hC:h.objs.size<=C)(sb:Heap.SameBut C h1 h2):Un fs ex H H' h h2:=by
 have ne:∀ b o,h.get? b=some o->b≠C:=fun b o e=>zcb (zcy (zbw e) hC)
 refine⟨fun b o e n a c=>(sb.2 b (ne b o e)).trans (u.keep b o e n a c),fun b o e n a c=>?_,u.free,fun b o e c=>?_,u.tups,u.frzs,u.tbls⟩
 ·obtain⟨sl,q⟩:=u.slot b o e n a c;exact⟨sl,(sb.2 b (ne b o e)).trans q⟩
 ·obtain⟨o',q⟩:=u.there b o e c;exact⟨o',(sb.2 b (ne b o e)).trans q⟩
inductive CpInv(X:Cx)(tn:Nat->Heap->Prop)(fp:List Addr)(W:Nat->Nat->St->Hp->Prop)(n:Nat)(s:Shared):Prop
 | mk (i:Nat) (Z:St) (H:Hp) (hI:Inv X [] Z H s) (ht:tn i s.heap) (hf:∀ b∈fp,H b=none) (hw:W i n Z H)
theorem jz4{elt tg iter:Expr}{ifs:List Expr}{scope:Scope}{pos:Pos}{own:List Str}{caps:qh}{wi:TI}{g:TG}{tc:TT}{te:TE}(hc:X.calm=true)(ck:CapsOk X scope caps)
  (hi:PI X tg iter wi) (hg:∀ C s0 H0 ex,PG (jbd X scope (own++caps.map (·.1)) C s0 H0 ex) tg g) (ht:∀ C s0 H0 ex,PC0 (jbd X scope (own++caps.map (·.1)) C s0 H0 ex) ifs tc)
  (he:∀ C s0 H0 ex,PE (jbd X scope (own++caps.map (·.1)) C s0 H0 ex) elt te) (hs:autoParam (∀ x,foldedSetIterable iter X.env x=pure x) zau3._auto_1) :
  PE X (.ListComp elt [⟨tg,iter,ifs,0⟩] scope pos) (jsb own.length caps wi g tc te):=by
 intro U s Z H Q I h;have hcl:closureFor scope X.env=pure (clOf X.env.cells scope.names []):=jis fun p hp hf=>I.ok.has p.1 (ck.fre p hp hf)
 rw[eval_ListComp];refine wpAny_comprehension_free (use:=none) rfl hs hcl ck.kind ck.loc (thn (hi U s Z H _ I h) fun v s1 h1=>thn h1 fun itv s2 h2=>?_);obtain⟨it,fp,tn,Jq,H2,e,I2,T,st2,f2,hw⟩:=h2;subst e;obtain⟨W,⟨m0,w0⟩,turn⟩:=hw s2.heap.objs.size (I2.hok.fresh (zac _));refine wpAny_newObj_type ?_;have hD:=I2.hok.fresh (zac s2.heap.objs.size);have I3:Inv X U Z (upd H2 s2.heap.objs.size (.lst [])) { s2 with heap:=s2.heap.push { cls:=.type "list",data:=.seq ([]:List Value).toArray } } :=
  I2.laid (t':=s2.toks) (fun b u e=>zaz _ e) (zac _) ⟨Nat.zero_le _,[],0,.nil,zbv _ rfl⟩
 have hlt:∀ b∈fp,b<s2.heap.objs.size:=fun b hb=>by obtain⟨o,e,_⟩:=T.obj _ _ st2 b hb;exact zbw e
 have f3:∀ b∈fp,FpOk X U (upd H2 s2.heap.objs.size (.lst [])) b:=fun b hb=>⟨by rw[jar (zcb (hlt b hb))];exact (f2 b hb).1,(f2 b hb).2⟩
 have hlt3:∀ b∈fp,b<(s2.heap.push { cls:=.type "list",data:=.seq ([]:List Value).toArray }).objs.size:=fun b hb=>by rw[Heap.size_push];exact Nat.lt_succ_of_lt (hlt b hb)
 refine wpAny_newFunctionEnv ck.nocell (by intro y hy;simp at hy) (fun h' hns hsb=>?_) ck.kind;generalize hS3:({ s2 with heap:=s2.heap.push { cls:=.type "list",data:=.seq ([]:List Value).toArray } }:Shared)=S3 at I3 hns hsb |-
 have hlt3':∀ b∈fp,b<S3.heap.objs.size:=by rw[<- hS3];exact hlt3
 have I4:=jqu (own:=own) (t':=S3.toks+([]:List (Str×Value)).length) I3 ck f3 hlt3' hns hsb;have st4:tn 0 h':=T.keep _ _ _ st2 fun b hb o e=>hsb.extBut b o (zcb (hlt3' b hb)) (zaz _ (by rw[<- hS3];exact zaz _ e))
 have hsz:s2.heap.objs.size<S3.heap.objs.size:=by rw[<- hS3];show _<(Heap.push _ _).objs.size;rw[Heap.size_push];exact Nat.lt_succ_self _
 generalize hCC:S3.heap.objs.size=C at I4 hsb hns hsz;have loop:codeAny (model X.prog X.w) X.A (.compLoop (.ListComp elt [⟨tg,iter,ifs,0⟩] scope pos) 0 (.ref it) (.ref s2.heap.objs.size) (compEnvC scope (clOf X.env.cells scope.names []) C X.env))
   (compPost (model X.prog X.w) X.A X.xe none (EP X U Z Q) (.ref s2.heap.objs.size) C) { S3 with heap:=h',toks:=S3.toks+([]:List (Str×Value)).length }:=by
  have xf:∀ {H':Hp},(∀ b∈fp,H' b=none)->∀ b∈fp,FpOk (jbd X scope (own++caps.map (·.1)) C S3 (upd H2 s2.heap.objs.size (.lst [])) fp) [] H' b:=fun hn b hb=>by
   refine⟨hn b hb,?_,?_,.inl hb,fun x c e=>(I4.ok.exf b hb).2 x c e,fun p hp=>absurd (show p∈([]:qd) from hp) (by simp)⟩
   ·exact (I4.ok.exf b hb).1
   ·exact I4.ok.exfs b hb
  refine jf6 (CpInv (jbd X scope (own++caps.map (·.1)) C S3 (upd H2 s2.heap.objs.size (.lst [])) fp) tn fp W) ?_ m0
   ⟨0,_,_,I4,st4,fun b hb=>(f3 b hb).1,w0⟩
  rintro n s5 ⟨i,Z5,H5,I5,st5,fr5,w5⟩;rcases turn i n Z5 H5 w5 with ⟨stop,qn⟩|⟨go,N,hN,step⟩
  ·refine thn (T.done (jbd X scope (own++caps.map (·.1)) C S3 (upd H2 s2.heap.objs.size (.lst [])) fp) rfl rfl rfl hc i [] s5 Z5 H5 NoX I5 (xf fr5) st5 stop) fun r s6 hzz=>?_
   obtain⟨hr,I6⟩:=hzz;subst hr;obtain⟨m6,n6,_⟩:=id I6.loc;refine⟨m6,n6,fun h7 sb7=>⟨.ref s2.heap.objs.size,H5,?_,rfl,qn⟩⟩;have C3:S3.heap.objs.size<=C:=Nat.le_of_eq hCC;refine I3.call' (s':={ s6 with heap:=h7 }) (ch:=fp) I6.os (jvd I6.base C3 sb7) (jtk I6.hok I6.free sb7) I6.bare fun b hb=>?_
   obtain⟨_,q1,_,q3,q4,q5⟩:=f3 b hb;exact⟨q3,q1,q4,q5⟩
  ·refine thn (T.item (jbd X scope (own++caps.map (·.1)) C S3 (upd H2 s2.heap.objs.size (.lst [])) fp) rfl rfl rfl hc i [] s5 Z5 H5 NoX I5 (xf fr5) st5 go) fun r s6 hzz=>?_
   obtain⟨u,hr,h6⟩:=hzz;subst hr;refine thn h6 fun _ s7 hzz=>?_
   obtain⟨x,H7,I7,r7,y7,st7,fr7⟩:=hzz;have I7':=I7.pinned (xf fr7) (T.obj _ _ st7);refine thn (hg _ _ _ _ _ s7 Z5 H7 x u _ I7' r7 (step x H7 y7)) fun _ s8 hzz=>?_
   obtain⟨Z8,H8,I8,q8⟩:=hzz;refine thn (ht _ _ _ _ _ s8 Z8 H8 _ I8 q8) fun ok s9 hzz=>?_
   obtain⟨H9,I9,q9⟩:=hzz;have again:∀ {s':Shared} {Z':St} {H':Hp},Inv (jbd X scope (own++caps.map (·.1)) C S3 (upd H2 s2.heap.objs.size (.lst [])) fp) ([]++jk1 fp s7.heap) Z' H' s'->N Z' H'->∃ m,m<n/\CpInv (jbd X scope (own++caps.map (·.1)) C S3 (upd H2 s2.heap.objs.size (.lst [])) fp) tn fp W m s':=fun {s' Z' H'} Ia na=>by
    obtain⟨m',hm,wa⟩:=hN Z' H' na;refine⟨m',hm,i+1,Z',H',Ia.unpinned,T.keep _ _ _ st7 fun b hb o e=>(Ia.pin (b,o) (zcz _ (zcz _ (jco hb e)))).1,fun b hb=>?_,wa⟩;obtain⟨o,e,d⟩:=T.obj _ _ st7 b hb;exact (Ia.pin (b,o) (zcz _ (zcz _ (jco hb e)))).2.1
   cases ok with
   | false =>
    rw[if_neg (by decide)] at q9 |-
    exact again I9 q9
   | true =>
    rw[if_pos rfl] at q9 |-
    refine thn (he _ _ _ _ _ s9 Z8 H9 _ I9 q9) fun y s10 hzz=>?_
    obtain⟨vy,H10,I10,r10,ys,hys,hlen,q10⟩:=hzz;refine thn (jgd _ s10 Z8 H10 (.ref s2.heap.objs.size) [vy] (.ref s2.heap.objs.size) [y] (fun _ H'=>N Z8 H') I10 rfl (.cons r10 .nil) ⟨_,ys,vy,rfl,rfl,hys,hlen,q10⟩) fun _ s11 hzz=>?_
    obtain⟨_,H11,I11,_,q11⟩:=hzz;exact again I11 q11
 exact codeAny_compStart_list loop (T.self _ 0 _ _ _ st4 loop)
end
end L2
namespace DL
open L2
inductive D where
 | non|bl (b:Bool)|int (i:Int)|str (x:Str)|ty (n:String)|obj (i:Nat)|tup (xs:List D)|lst (xs:List D)
structure XD where
 cls:Str
 fs:List (Str×D)
abbrev M(α:Type):=Option (Except XD α)
noncomputable def M.b{α β:Type}(m:M α)(f:α->M β):M β:=match m with
 | none=>none
 | some (.error x)=>some (.error x)
 | some (.ok a)=>f a
noncomputable def M.p{α:Type}(a:α):M α:=some (.ok a)
noncomputable def M.o{α:Type}:Option α->M α
 | none=>none
 | some a=>some (.ok a)
inductive M.BInv{α β:Type}(m:M α)(f:α->M β)(r:Except XD β):Prop
 | ok (a:α) (h1:m=some (.ok a)) (h2:f a=some r)
 | err (x:XD) (h1:m=some (.error x)) (h2:r=.error x)
theorem M.b_inv{α β:Type}{m:M α}{f:α->M β}{r:Except XD β}(h:m.b f=some r):M.BInv m f r:=by
 cases m with
 | none=>cases h
 | some e =>
  cases e with
  | error x=>exact .err x rfl (zbz h).symm
  | ok a=>exact .ok a rfl h
theorem M.o_inv{α:Type}{m:Option α}{r:Except XD α}(h:M.o m=some r):∃ a,m=some a/\r=.ok a:=by
 cases m with
 | none=>cases h
 | some a=>exact⟨a,rfl,(zbz h).symm⟩
@[simp] theorem M.b_ok{α β:Type}(a:α)(f:α->M β):M.b (some (.ok a)) f=f a:=rfl
@[simp] theorem M.b_p{α β:Type}(a:α)(f:α->M β):M.b (M.p a) f=f a:=rfl
@[simp] theorem M.b_err{α β:Type}(x:XD)(f:α->M β):M.b (some (.error x)) f=some (.error x):=rfl
@[simp] theorem M.o_some{α:Type}(a:α):M.o (some a)=M.p a:=rfl
abbrev Rho:=Nat->Option Addr
mutual
noncomputable def Rep(J:Rho)(K:W.Frag)(H:Hp):D->V->Prop
 | .non,v=>v=.non
 | .bl b,v=>v=.bl b
 | .int i,v=>v=.int i
 | .str x,v=>v=.str x
 | .ty n,v=>v=.ty n
 | .obj i,v=>∃ a,J i=some a/\v=.ref a
 | .tup ds,v=>∃ a xs,v=.ref a/\SqT K H a xs/\Reps J K H ds xs
 | .lst ds,v=>∃ a xs,v=.ref a/\SqL K H a xs/\Reps J K H ds xs
noncomputable def Reps(J:Rho)(K:W.Frag)(H:Hp):List D->List V->Prop
 | [],xs=>xs=[]
 | d::ds,xs=>∃ v vs,xs=v::vs/\Rep J K H d v/\Reps J K H ds vs
end
variable {J:Rho}{K:W.Frag}{H H':Hp}
theorem ju3{a:Addr}{u:HO}(e:Same H H')(h:Rd H a u):Rd H' a u:=by
 rcases h with h|⟨o,h⟩
 ·exact .inl (e a _ h)
 ·exact .inr ⟨o,e a _ h⟩
theorem jdi{a:Addr}{xs:List V}(e:Same H H')(h:SqL K H a xs):SqL K H' a xs:=h.imp (ju3 e) id
theorem jdl{a:Addr}{xs:List V}(e:Same H H')(h:SqT K H a xs):SqT K H' a xs:=h.imp (ju3 e) id
mutual
theorem Rep.mono(e:Same H H'):∀ {d:D} {v:V},Rep J K H d v->Rep J K H' d v
 | .non,_,h=>by unfold Rep at h |-;exact h
 | .bl _,_,h=>by unfold Rep at h |-;exact h
 | .int _,_,h=>by unfold Rep at h |-;exact h
 | .str _,_,h=>by unfold Rep at h |-;exact h
 | .ty _,_,h=>by unfold Rep at h |-;exact h
 | .obj _,_,h=>by unfold Rep at h |-;exact h
 | .tup _,_,h=>by
  unfold Rep at h |-
  obtain⟨a,xs,q1,q2,q3⟩:=h;exact⟨a,xs,q1,jdl e q2,Reps.mono e q3⟩
 | .lst _,_,h=>by
  unfold Rep at h |-
  obtain⟨a,xs,q1,q2,q3⟩:=h;exact⟨a,xs,q1,jdi e q2,Reps.mono e q3⟩
theorem Reps.mono(e:Same H H'):∀ {ds:List D} {vs:List V},Reps J K H ds vs->Reps J K H' ds vs
 | [],_,h=>by unfold Reps at h |-;exact h
 | _::_,_,h=>by
  unfold Reps at h |-
  obtain⟨v,vs,q1,q2,q3⟩:=h;exact⟨v,vs,q1,Rep.mono e q2,Reps.mono e q3⟩
end
theorem reps_nil{vs:List V}:Reps J K H [] vs↔vs=[]:=by unfold Reps;exact Iff.rfl
theorem reps_cons{d:D}{ds:List D}{vs:List V}:Reps J K H (d::ds) vs↔∃ v r,vs=v::r/\Rep J K H d v/\Reps J K H ds r:=by
 conv=>lhs;unfold Reps
theorem Reps.cons{d:D}{ds:List D}{v:V}{vs:List V}(h:Rep J K H d v)(t:Reps J K H ds vs):Reps J K H (d::ds) (v::vs):=reps_cons.mpr ⟨v,vs,rfl,h,t⟩
theorem Reps.nil:Reps J K H [] []:=reps_nil.mpr rfl
theorem Reps.length:∀ {ds:List D} {vs:List V},Reps J K H ds vs->vs.length=ds.length
 | [],_,h=>by rw[reps_nil.mp h];rfl
 | _::_,_,h=>by
  obtain⟨v,r,rfl,_,t⟩:=reps_cons.mp h;simp[Reps.length t]
theorem Reps.get:∀ {ds:List D} {vs:List V} {i:Nat} {d:D},Reps J K H ds vs->ds[i]? = some d->∃ v,vs[i]? = some v/\Rep J K H d v
 | [],_,_,_,_,e=>by simp at e
 | _::_,_,0,_,h,e=>by
  obtain⟨v,r,rfl,q,_⟩:=reps_cons.mp h;simp at e;subst e
  exact⟨v,rfl,q⟩
 | _::_,_,i+1,_,h,e=>by
  obtain⟨v,r,rfl,_,t⟩:=reps_cons.mp h;obtain⟨u,q1,q2⟩:=Reps.get (i:=i) t (by simpa using e);exact⟨u,by simpa using q1,q2⟩
theorem Reps.append:∀ {ds es:List D} {vs us:List V},Reps J K H ds vs->Reps J K H es us->Reps J K H (ds++es) (vs++us)
 | [],_,_,_,h,k=>by rw[reps_nil.mp h];exact k
 | _::_,_,_,_,h,k=>by
  obtain⟨v,r,rfl,q,t⟩:=reps_cons.mp h;exact Reps.cons q (Reps.append t k)
theorem jk3:∀ {ds:List D} {vs:List V},vs.length=ds.length->(∀ (i:Nat) d v,ds[i]? = some d->vs[i]? = some v->Rep J K H d v)->Reps J K H ds vs
 | [],[],_,_=>Reps.nil
 | [],_::_,h,_=>by simp at h
 | _::_,[],h,_=>by simp at h
 | d::ds,v::vs,h,k=>Reps.cons (k 0 d v rfl rfl) (jk3 (by simpa using h) fun i d v e1 e2=>k (i+1) d v (by simpa using e1) (by simpa using e2))
theorem rep_int{i:Int}{v:V}:Rep J K H (.int i) v↔v=.int i:=by unfold Rep;exact Iff.rfl
theorem rep_str{x:Str}{v:V}:Rep J K H (.str x) v↔v=.str x:=by unfold Rep;exact Iff.rfl
theorem rep_ty{n:String}{v:V}:Rep J K H (.ty n) v↔v=.ty n:=by unfold Rep;exact Iff.rfl
theorem rep_obj{i:Nat}{v:V}:Rep J K H (.obj i) v↔∃ a,J i=some a/\v=.ref a:=by unfold Rep;exact Iff.rfl
theorem rep_bl{b:Bool}{v:V}:Rep J K H (.bl b) v↔v=.bl b:=by unfold Rep;exact Iff.rfl
theorem rep_non{v:V}:Rep J K H .non v↔v=.non:=by unfold Rep;exact Iff.rfl
theorem rep_tup{ds:List D}{v:V}:Rep J K H (.tup ds) v↔∃ a xs,v=.ref a/\SqT K H a xs/\Reps J K H ds xs:=by conv=>lhs;unfold Rep
theorem rep_lst{ds:List D}{v:V}:Rep J K H (.lst ds) v↔∃ a xs,v=.ref a/\SqL K H a xs/\Reps J K H ds xs:=by conv=>lhs;unfold Rep
theorem reps_ints:∀ {ns:List Int} {vs:List V},Reps J K H (ns.map .int) vs↔vs=ns.map V.int
 | [],vs=>reps_nil
 | n::ns,vs=>by
  rw[List.map_cons,reps_cons];constructor
  ·rintro⟨v,r,rfl,h1,h2⟩;rw[rep_int.mp h1,reps_ints.mp h2];rfl
  ·rintro rfl;exact⟨_,_,rfl,rep_int.mpr rfl,reps_ints.mpr rfl⟩
noncomputable def hid(H:Hp)(G:qf):Hp:=fun b=>if G b=true then none else H b
theorem hid_some{G:qf}{b:Addr}{o:HO}:hid H G b=some o↔G b=false/\H b=some o:=by
 unfold hid;cases e:G b<;>simp
theorem jan{G:qf}(e:Same H H'):Same (hid H G) (hid H' G):=fun b o h=>by
 obtain⟨q1,q2⟩:=hid_some.mp h;exact hid_some.mpr ⟨q1,e b o q2⟩
theorem jek{G G':qf}(h:∀ b,G' b=true->G b=true):Same (hid H G) (hid H G'):=fun b o q=>by
 obtain⟨q1,q2⟩:=hid_some.mp q;refine hid_some.mpr ⟨?_,q2⟩
 cases e:G' b with
 | false=>rfl
 | true=>rw[h b e] at q1;cases q1
theorem jao{G:qf}:Same (hid H G) H:=fun b o q=>(hid_some.mp q).2
theorem jc1{G:qf}{a:Addr}{o:HO}(h:G a=true):hid (upd H a o) G=hid H G:=by
 funext b
 unfold hid upd
 by_cases e:b=a
 ·subst e;rw[if_pos h,if_pos h]
 ·rw[if_neg e]
theorem jax{p:Addr}{o:HO}(h:H p=none):Same H (upd H p o):=fun b u e=>by rw[jar (jaz e h)];exact e
theorem jgi{Hz:Hp}{p:Addr}{o:HO}(e:Same Hz H)(h:Hz p=none):Same Hz (upd H p o):=fun b u q=>by rw[jar (jaz q h)];exact e b u q
abbrev DSt:=List (Option D)
noncomputable def jAh:Option (Option V)->Option Addr
 | some (some (.ref a))=>some a
 | _=>none
theorem jr7{o:Option (Option V)}{a:Addr}:jAh o=some a↔o=some (some (.ref a)):=by
 constructor
 ·intro h;unfold jAh at h
  split at h
  ·cases h;rfl
  ·cases h
 ·rintro rfl;rfl
def ownA(Z:St):List Nat->List Addr
 | []=>[]
 | i::O=>(jAh Z[i]?).toList++ownA Z O
theorem jwm{Z:St}{O:List Nat}{a:Addr}:a∈ownA Z O↔∃ i∈O,Z[i]? = some (some (.ref a)):=by
 induction O with
 | nil=>simp[ownA]
 | cons j O ih =>
  unfold ownA;rw[zey,ih,Option.mem_toList,jr7];constructor
  ·rintro (h|⟨i,hi,h⟩)
   ·exact⟨j,zaa,h⟩
   ·exact⟨i,zaw _ hi,h⟩
  ·rintro⟨i,hi,h⟩;rcases List.mem_cons.mp hi with rfl|hi
   ·exact .inl h
   ·exact .inr ⟨i,hi,h⟩
def fob(F:qf)(Z:St)(O:List Nat):qf:=fun b=>F b || (ownA Z O).contains b
theorem fob_t{F:qf}{Z:St}{O:List Nat}{b:Addr}:fob F Z O b=true↔F b=true\/∃ i∈O,Z[i]? = some (some (.ref b)):=by
 unfold fob;rw[Bool.or_eq_true,zcx,jwm]
theorem ja8{F:qf}{Z:St}:fob F Z []=F:=by
 funext b;unfold fob ownA;simp
structure RS(J:Rho)(K:W.Frag)(Hz H:Hp)(F:qf)(O:List Nat)(Z:St)(Y:DSt):Prop where
 len:Z.length=Y.length
 same:Same Hz H
 fin:∀ b,F b=true->H b≠none
 val:∀ (i:Nat) d,Y[i]? = some (some d)->i∉O->∃ v,Z[i]? = some (some v)/\Rep J K (hid H (fob F Z O)) d v
 own:∀ i∈O,∃ (a:Addr) (xs:List V) (ds:List D),Y[i]? = some (some (.lst ds))/\Z[i]? = some (some (.ref a))/\H a=some (.lst xs)/\(Hz a=none/\F a=false)/\Reps J K (hid H (fob F Z O)) ds xs
 nd:∀ i∈O,∀ j∈O,∀ a,Z[i]? = some (some (.ref a))->Z[j]? = some (some (.ref a))->i=j
section
variable {Hz:Hp}{F:qf}{O:List Nat}{Z:St}{Y:DSt}
theorem jAk{b:Addr}(e:Same H H')(h:H b≠none):H' b≠none:=fun z=>by
 cases q:H b with
 | none=>exact h q
 | some o=>rw[e b o q] at z;cases z
theorem jfu{b p:Addr}{o:HO}(h:H b≠none):upd H p o b≠none:=by
 by_cases e:b=p
 ·subst e;rw[jaq];exact fun z=>nomatch z
 ·rw[jar e];exact h
theorem RS.mono(R:RS J K Hz H F O Z Y)(e:Same H H'):RS J K Hz H' F O Z Y :=
 ⟨R.len,R.same.trans e,fun b hb=>jAk e (R.fin b hb),fun i d h ho=>let ⟨v,q1,q2⟩:=R.val i d h ho;⟨v,q1,q2.mono (jan e)⟩,
  fun i hi=>let ⟨a,xs,ds,q1,q2,q3,q4,q5⟩:=R.own i hi;⟨a,xs,ds,q1,q2,e a _ q3,q4,q5.mono (jan e)⟩,R.nd⟩
theorem RS.fresh(R:RS J K Hz H F O Z Y){p:Addr}(h:H p=none):fob F Z O p=false:=by
 cases e:fob F Z O p with
 | false=>rfl
 | true =>
  rcases fob_t.mp e with q|⟨i,hi,q⟩
  ·exact absurd h (R.fin p q)
  ·obtain⟨a,xs,ds,_,q2,q3,_⟩:=R.own i hi;rw[q] at q2;cases q2
   rw[q3] at h;cases h
theorem RS.fresh0(R:RS J K Hz H F O Z Y){p:Addr}(h:H p=none):Hz p=none:=by
 cases e0:Hz p with
 | none=>rfl
 | some o=>rw[R.same p o e0] at h;cases h
theorem RS.thaw{O':List Nat}(R:RS J K Hz H F O Z Y)(h:∀ i∈O',i∈O):RS J K Hz H F O' Z Y:=by
 have le:∀ b,fob F Z O' b=true->fob F Z O b=true:=fun b q=>by
  rcases fob_t.mp q with q|⟨i,hi,q⟩
  ·exact fob_t.mpr (.inl q)
  ·exact fob_t.mpr (.inr ⟨i,h i hi,q⟩)
 refine⟨R.len,R.same,R.fin,fun i d hd ho=>?_,fun i hi=>?_,fun i hi j hj=>R.nd i (h i hi) j (h j hj)⟩
 ·by_cases hO:i∈O
  ·obtain⟨a,xs,ds,q1,q2,q3,q4,q5⟩:=R.own i hO;rw[q1] at hd;cases hd
   refine⟨_,q2,rep_lst.mpr ⟨a,xs,rfl,SqL.of (hid_some.mpr ⟨?_,q3⟩),q5.mono (jek le)⟩⟩
   cases e:fob F Z O' a with
   | false=>rfl
   | true =>
    rcases fob_t.mp e with z|⟨j,hj,z⟩
    ·rw[q4.2] at z;cases z
    ·exact absurd (R.nd i hO j (h j hj) a q2 z ▸ hj) ho
  ·obtain⟨v,q1,q2⟩:=R.val i d hd hO;exact⟨v,q1,q2.mono (jek le)⟩
 ·obtain⟨a,xs,ds,q1,q2,q3,q4,q5⟩:=R.own i (h i hi);exact⟨a,xs,ds,q1,q2,q3,q4,q5.mono (jek le)⟩
theorem jcj{i:Nat}{v:V}(h:i∉O):fob F (Z.set i (some v)) O=fob F Z O:=by
 have:ownA (Z.set i (some v)) O=ownA Z O:=by
  induction O with
  | nil=>rfl
  | cons j O ih =>
   unfold ownA;rw[zba (by rintro rfl;exact h zaa),ih fun z=>h (zaw _ z)]
 unfold fob;rw[this]
theorem RS.set(R:RS J K Hz H F O Z Y){i:Nat}{d:D}{v:V}(ho:i∉O)(hr:Rep J K (hid H (fob F Z O)) d v):RS J K Hz H F O (Z.set i (some v)) (Y.set i (some d)):=by
 have ne:∀ j∈O,j≠i:=fun j hj e=>ho (e ▸ hj)
 refine⟨by simp[R.len],R.same,R.fin,fun j e hd hj=>?_,fun j hj=>?_,fun j hj k hk a e1 e2=>?_⟩
 ·rw[jcj ho]
  by_cases hji:j=i
  ·subst hji;have hl:j<Y.length:=by
    by_cases q:j<Y.length
    ·exact q
    ·rw[List.getElem?_eq_none (by simpa using q)] at hd;cases hd
   rw[zcv hl] at hd;cases hd;exact⟨v,zcv (by rw[R.len];exact hl),hr⟩
  ·rw[zba (Ne.symm hji)] at hd |-
   exact R.val j e hd hj
 ·rw[jcj ho,zba (Ne.symm (ne j hj)),zba (Ne.symm (ne j hj))];exact R.own j hj
 ·rw[zba (Ne.symm (ne j hj))] at e1;rw[zba (Ne.symm (ne k hk))] at e2;exact R.nd j hj k hk a e1 e2
theorem RS.take(R:RS J K Hz H F O Z Y){i:Nat}{ds:List D}{p:Addr}{xs:List V}{H1:Hp}(ho:i∉O)(hi:i<Y.length)(e:Same H H1)(hp:H1 p=none)(hr:Reps J K (hid H1 (fob F Z O)) ds xs) :
  RS J K Hz (upd H1 p (.lst xs)) F (i::O) (Z.set i (some (.ref p))) (Y.set i (some (.lst ds))):=by
 have R1:=R.mono e;have p0:=R1.fresh0 hp;have pf:=R1.fresh hp;have ne:∀ j∈O,j≠i:=fun j hj e=>ho (e ▸ hj)
 have lZ:i<Z.length:=by rw[R.len];exact hi
 have gp:∀ b,fob F (Z.set i (some (.ref p))) (i::O) b=true↔b=p\/fob F Z O b=true:=fun b=>by
  rw[fob_t,fob_t];constructor
  ·rintro (q|⟨j,hj,q⟩)
   ·exact .inr (.inl q)
   ·rcases List.mem_cons.mp hj with rfl|hj
    ·rw[zcv lZ] at q;cases q;exact .inl rfl
    ·rw[zba (Ne.symm (ne j hj))] at q;exact .inr (.inr ⟨j,hj,q⟩)
  ·rintro (rfl|q|⟨j,hj,q⟩)
   ·exact .inr ⟨i,zaa,zcv lZ⟩
   ·exact .inl q
   ·exact .inr ⟨j,zaw _ hj,by rw[zba (Ne.symm (ne j hj))];exact q⟩
 have eqH:hid (upd H1 p (.lst xs)) (fob F (Z.set i (some (.ref p))) (i::O))=hid H1 (fob F Z O):=by
  funext b
  by_cases hb:b=p
  ·subst hb;unfold hid;rw[if_pos ((gp b).mpr (.inl rfl)),hp]
   split<;>rfl
  ·unfold hid;rw[jar hb]
   cases q:fob F Z O b with
   | true=>rw[if_pos ((gp b).mpr (.inr q)),if_pos rfl]
   | false =>
    rw[if_neg (by rw[gp];rintro (z|z);exact hb z;rw[q] at z;cases z),if_neg (by decide)]
 refine⟨by simp[R.len],jgi R1.same p0,fun b hb=>jfu (R1.fin b hb),fun j d hd hj=>?_,fun j hj=>?_,fun j hj k hk a e1 e2=>?_⟩
 ·have hji:j≠i:=fun z=>hj (z ▸ zaa)
  rw[eqH];rw[zba (Ne.symm hji)] at hd |-
  exact R1.val j d hd fun z=>hj (zaw _ z)
 ·rw[eqH];rcases List.mem_cons.mp hj with rfl|hj
  ·exact⟨p,xs,ds,zcv hi,zcv lZ,jaq,⟨p0,by cases z:F p with|false=>rfl|true=>rw[fob_t.mpr (.inl z)] at pf;cases pf⟩,hr⟩
  ·obtain⟨a,ys,es,q1,q2,q3,q4,q5⟩:=R1.own j hj;refine⟨a,ys,es,by rw[zba (Ne.symm (ne j hj))];exact q1,by rw[zba (Ne.symm (ne j hj))];exact q2,?_,q4,q5⟩;rw[jar (jaz q3 hp)];exact q3
 ·have np:∀ j∈O,∀ a,Z[j]? = some (some (.ref a))->a≠p:=fun j hj a q z=>by
   obtain⟨a',ys,es,q1,q2,q3,q4,q5⟩:=R1.own j hj;rw[q] at q2;cases q2
   rw[z,hp] at q3;cases q3
  rcases List.mem_cons.mp hj with rfl|hj
  ·rw[zcv lZ] at e1;cases e1;rcases List.mem_cons.mp hk with rfl|hk
   ·rfl
   ·rw[zba (Ne.symm (ne k hk))] at e2;exact absurd rfl (np k hk p e2)
  ·rw[zba (Ne.symm (ne j hj))] at e1;rcases List.mem_cons.mp hk with hke|hk
   ·subst hke;rw[zcv lZ] at e2;cases e2;exact absurd rfl (np j (by assumption) p e1)
   ·rw[zba (Ne.symm (ne k hk))] at e2;exact R.nd j hj k hk a e1 e2
theorem RS.write(R:RS J K Hz H F O Z Y){i:Nat}{a:Addr}{ds:List D}{xs:List V}(hi:i∈O)(ha:Z[i]? = some (some (.ref a)))(hr:Reps J K (hid H (fob F Z O)) ds xs) :
  RS J K Hz (upd H a (.lst xs)) F O Z (Y.set i (some (.lst ds))):=by
 obtain⟨a',ys,es,q1,q2,q3,q4,q5⟩:=R.own i hi;rw[ha] at q2;cases q2
 have hl:i<Y.length:=(zbc.mp q1).1;have hh:hid (upd H a (.lst xs)) (fob F Z O)=hid H (fob F Z O):=jc1 (fob_t.mpr (.inr ⟨i,hi,ha⟩));refine⟨by simp[R.len],jgi R.same q4.1,fun b hb=>jfu (R.fin b hb),fun j d hd hj=>?_,fun j hj=>?_,R.nd⟩
 ·have hji:j≠i:=fun z=>hj (z ▸ hi)
  rw[hh];rw[zba (Ne.symm hji)] at hd;exact R.val j d hd hj
 ·rw[hh]
  by_cases hji:j=i
  ·subst hji;exact⟨a,xs,ds,zcv hl,ha,jaq,q4,hr⟩
  ·obtain⟨b,zs,fs,p1,p2,p3,p4,p5⟩:=R.own j hj;refine⟨b,zs,fs,by rw[zba (Ne.symm hji)];exact p1,p2,?_,p4,p5⟩;rw[jar (show b≠a from fun z=>hji (R.nd j hj i hi b p2 (by rw[z];exact ha)))];exact p3
end
def XRep(K:W.Frag)(H:Hp)(x:XD)(c:Value)(dx:Option Addr):Prop:=False
def okX(K:W.Frag)(Hz:Hp)(E:XK)(x:XD):Prop:=∀ c dx H',Same Hz H'->XRep K H' x c dx->E c dx H'
inductive tD(K:W.Frag)(O:List Nat)(E:XK)(f:DSt->M D)(Z:St)(H:Hp)(Q:VK):Prop
 | mk (J:Rho) (Hz:Hp) (F:qf) (Y:DSt) (r:Except XD D) (R:RS J K Hz H F O Z Y) (hf:f Y=some r) (k:match (generalizing:=false) r with
  | .ok d=>∀ v H',Same H H'->Rep J K (hid H' (fob F Z O)) d v->Q v H'
  | .error x=>okX K Hz E x)
def DE(X:Cx)(O:List Nat)(E:XK)(e:Expr)(f:DSt->M D):Prop:=PE X e (tD X.K O E f)
inductive tB(K:W.Frag)(O:List Nat)(E:XK)(f:DSt->M Bool)(Z:St)(H:Hp)(Q:Bool->Hp->Prop):Prop
 | mk (J:Rho) (Hz:Hp) (F:qf) (Y:DSt) (r:Except XD Bool) (R:RS J K Hz H F O Z Y) (hf:f Y=some r) (k:match (generalizing:=false) r with
  | .ok b=>∀ H',Same H H'->Q b H'
  | .error x=>okX K Hz E x)
def DT(X:Cx)(O:List Nat)(E:XK)(e:Expr)(f:DSt->M Bool):Prop:=PT X e (tB X.K O E f)
inductive tL(K:W.Frag)(O:List Nat)(E:XK)(f:DSt->M (List D))(Z:St)(H:Hp)(Q:List V->Hp->Prop):Prop
 | mk (J:Rho) (Hz:Hp) (F:qf) (Y:DSt) (r:Except XD (List D)) (R:RS J K Hz H F O Z Y) (hf:f Y=some r) (k:match (generalizing:=false) r with
  | .ok ds=>∀ vs H',Same H H'->Reps J K (hid H' (fob F Z O)) ds vs->Q vs H'
  | .error x=>okX K Hz E x)
def DA(X:Cx)(O:List Nat)(E:XK)(es:List Expr)(f:DSt->M (List D)):Prop:=PA X es (tL X.K O E f)
def fVar(i:Nat):DSt->M D:=fun Y=>M.o (Y[i]?).join
def fC(d:D):DSt->M D:=fun _=>M.p d
def f2(g:D->D->Option D)(fa fb:DSt->M D):DSt->M D:=fun Y=>(fa Y).b fun x=>(fb Y).b fun y=>M.o (g x y)
def f1(g:D->Option D)(fa:DSt->M D):DSt->M D:=fun Y=>(fa Y).b fun x=>M.o (g x)
def t2(g:D->D->Option D)(fa fb:DSt->M D):DSt->M Bool:=fun Y=>(fa Y).b fun x=>(fb Y).b fun y=>match g x y with
 | some (.bl b)=>M.p b
 | _=>none
def fNil:DSt->M (List D):=fun _=>M.p []
def jac(f:DSt->M D)(g:DSt->M (List D)):DSt->M (List D):=fun Y=>(f Y).b fun x=>(g Y).b fun xs=>M.p (x::xs)
def fL(k:List D->Option D)(g:DSt->M (List D)):DSt->M D:=fun Y=>(g Y).b fun xs=>M.o (k xs)
section
variable {J:Rho}{X:Cx}{O:List Nat}{E:XK}{a b c e:Expr}{es:List Expr}{fa fb:DSt->M D}{fl:DSt->M (List D)}{pos:Pos}
theorem join_some{Y:DSt}{i:Nat}{d:D}(h:(Y[i]?).join=some d):Y[i]? = some (some d):=by
 cases e:Y[i]? with
 | none=>rw[e] at h;cases h
 | some o=>rw[e] at h;exact congrArg some h
theorem jaa(i:Nat){x:Str}(ho:autoParam (O.contains i=false) zau2._auto_1)(hN:autoParam (X.N[i]? = some x) zau2._auto_1)(hv:autoParam (Vis X.env.scope x) zau4._auto_1)
  (hd:autoParam (qj x) zau1._auto_1) (hcd:autoParam ((x == ("__classdict__":Str))=false) zau1._auto_1):DE X O E (.Name x pos) (fVar i):=by
 rintro U s Z H Q I ⟨J,Hz,F,Y,r,R,hf,h⟩;obtain⟨d,e,rfl⟩:=M.o_inv hf;have ho':i∉O:=fun z=>by rw[zcx.mpr z] at ho;cases ho
 obtain⟨v,q1,q2⟩:=R.val i d (join_some e) ho';exact jlz hN hv hd hcd U s Z H Q I ⟨v,q1,h v H (Same.refl H) q2⟩
theorem jno{t:TE}{d:D}{v:V}(h:PE X e (tC v))(hr:∀ J H,Rep J X.K H d v):DE X O E e (fC d):=by
 rintro U s Z H Q I ⟨J,Hz,F,Y,r,R,hf,k⟩;cases hf;exact h U s Z H Q I (k v H (Same.refl H) (hr _ _))
theorem jad{i:Int}{j}:DE X O E (.Constant (.int i) j pos) (fC (.int i)):=jno (t:=tC (.int i)) jyb fun _ _=>rep_int.mpr rfl
theorem jh1{k:Bool}{j}:DE X O E (.Constant (.bool k) j pos) (fC (.bl k)):=jno (t:=tC (.bl k)) jGf fun _ _=>rep_bl.mpr rfl
theorem ji8{j}:DE X O E (.Constant .none j pos) (fC .non):=jno (t:=tC .non) jDi fun _ _=>rep_non.mpr rfl
theorem ji9{x:Str}{j}:DE X O E (.Constant (.str x) j pos) (fC (.str x)):=jno (t:=tC (.str x)) jDm fun _ _=>rep_str.mpr rfl
def OpD(K:W.Frag)(g:D->D->Option D)(r:R2):Prop:=∀ x y d,g x y=some d->∀ (J:Rho) (H:Hp) (G:qf) u v (Q:VK),(∀ p,H p=none->G p=false)->Rep J K (hid H G) x u->Rep J K (hid H G) y v ->
 (∀ w H',Same H H'->Rep J K (hid H' G) d w->Q w H')->r u v H Q
def UnD(K:W.Frag)(g:D->Option D)(r:V->Hp->VK->Prop):Prop:=∀ x d,g x=some d->∀ (J:Rho) (H:Hp) (G:qf) u (Q:VK),(∀ p,H p=none->G p=false)->Rep J K (hid H G) x u ->
 (∀ w H',Same H H'->Rep J K (hid H' G) d w->Q w H')->r u H Q
def CaD(K:W.Frag)(g:List D->Option D)(r:List V->Hp->VK->Prop):Prop:=∀ xs d,g xs=some d->∀ (J:Rho) (H:Hp) (G:qf) us (Q:VK),(∀ p,H p=none->G p=false)->Reps J K (hid H G) xs us ->
 (∀ w H',Same H H'->Rep J K (hid H' G) d w->Q w H')->r us H Q
theorem jp9{g:D->D->Option D}{r:R2}{Z:St}{H:Hp}{Q:VK}(hg:OpD X.K g r)(h:tD X.K O E (f2 g fa fb) Z H Q):tOp r (tD X.K O E fa) (tD X.K O E fb) Z H Q:=by
 obtain⟨J,Hz,F,Y,rr,R,hf,h⟩:=h;rcases M.b_inv hf with ⟨x,e1,hf⟩|⟨x,e1,rfl⟩
 ·refine⟨J,Hz,F,Y,.ok x,R,e1,fun u H1 s1 r1=>?_⟩;rcases M.b_inv hf with ⟨y,e2,hf⟩|⟨y,e2,rfl⟩
  ·refine⟨J,Hz,F,Y,.ok y,R.mono s1,e2,fun v H2 s2 r2=>?_⟩;obtain⟨d,hd,rfl⟩:=M.o_inv hf;exact hg x y d hd J H2 _ u v Q (fun p hp=>(R.mono (s1.trans s2)).fresh hp) (r1.mono (jan s2)) r2 fun w H3 s3 r3=>h w H3 (s1.trans (s2.trans s3)) r3
  ·exact⟨J,Hz,F,Y,.error y,R.mono s1,e2,h⟩
 ·exact⟨J,Hz,F,Y,.error x,R,e1,h⟩
theorem jak{op:Operator}{g:D->D->Option D}{r:R2}(ho:OpR X (binaryOp op) r)(hg:OpD X.K g r)(ha:DE X O E a fa)(hb:DE X O E b fb):DE X O E (.BinOp a op b pos) (f2 g fa fb) :=
 fun U s Z H Q I h=>jDl ho ha hb U s Z H Q I (jp9 hg h)
theorem jal{g:D->D->Option D}{r:R2}(ho:IxR X r)(hg:OpD X.K g r)(ha:DE X O E a fa)(hb:DE X O E b fb)(hs:autoParam (jl6 b) zau5._auto_1):DE X O E (.Subscript a b pos) (f2 g fa fb) :=
 fun U s Z H Q I h=>jz5 ho ha hb hs U s Z H Q I (jp9 hg h)
theorem ji7{op:CmpOp}{g:D->D->Option D}{r:R2}(ho:OpR X (compareOp op) r)(hg:OpD X.K g r)(ha:DE X O E a fa)(hb:DE X O E b fb)(hm:behindInMarks op b=false):DE X O E (.Compare a [op] [b] pos) (f2 g fa fb) :=
 fun U s Z H Q I h=>jz3 ho ha hb hm U s Z H Q I (jp9 hg h)
theorem jbc{op:CmpOp}{g:D->D->Option D}{r:R2}(ho:OpR X (compareOp op) r)(hg:OpD X.K g r)(ha:DE X O E a fa)(hb:DE X O E b fb)(hm:behindInMarks op b=false):DT X O E (.Compare a [op] [b] pos) (t2 g fa fb):=by
 rintro U s Z H Q I ⟨J,Hz,F,Y,rr,R,hf,h⟩;refine jux ho ha hb hm U s Z H Q I (jp9 (r:=r) hg ?_);have key:∃ r':Except XD D,f2 g fa fb Y=some r'/\(match r',rr with|.ok d,.ok b=>d=.bl b|.error x,.error y=>x=y|_,_=>False):=by
  rcases M.b_inv hf with ⟨x,e1,hf⟩|⟨x,e1,rfl⟩
  ·rcases M.b_inv hf with ⟨y,e2,hf⟩|⟨y,e2,rfl⟩
   ·unfold f2;rw[e1,M.b_ok,e2,M.b_ok]
    cases e3:g x y with
    | none=>rw[e3] at hf;cases hf
    | some d =>
     rw[e3] at hf
     cases d with
     | bl k=>cases hf;exact⟨_,rfl,rfl⟩
     | _=>cases hf
   ·exact⟨.error y,by unfold f2;rw[e1,M.b_ok,e2];rfl,rfl⟩
  ·exact⟨.error x,by unfold f2;rw[e1];rfl,rfl⟩
 obtain⟨r',e,q⟩:=key;refine⟨J,Hz,F,Y,r',R,e,?_⟩
 cases r' with
 | error x=>cases rr with
  | error y=>cases q;exact h
  | ok _=>exact q.elim
 | ok d=>cases rr with
  | error y=>exact q.elim
  | ok k =>
   cases q;exact fun v H' s' rv=>⟨k,rep_bl.mp rv,h H' s'⟩
theorem jG8{g:D->Option D}{r:V->Hp->VK->Prop}{Z:St}{H:Hp}{Q:VK}(hg:UnD X.K g r)(h:tD X.K O E (f1 g fa) Z H Q):tUn r (tD X.K O E fa) Z H Q:=by
 obtain⟨J,Hz,F,Y,rr,R,hf,h⟩:=h;rcases M.b_inv hf with ⟨x,e1,hf⟩|⟨x,e1,rfl⟩
 ·refine⟨J,Hz,F,Y,.ok x,R,e1,fun u H1 s1 r1=>?_⟩;obtain⟨d,hd,rfl⟩:=M.o_inv hf;exact hg x d hd J H1 _ u Q (fun p hp=>(R.mono s1).fresh hp) r1 fun w H3 s3 r3=>h w H3 (s1.trans s3) r3
 ·exact⟨J,Hz,F,Y,.error x,R,e1,h⟩
theorem jh2{op:UnaryOp}{g:D->Option D}{r:V->Hp->VK->Prop}(ho:UnR X (unaryOp op) r)(hg:UnD X.K g r)(ha:DE X O E a fa):DE X O E (.UnaryOp op a pos) (f1 g fa) :=
 fun U s Z H Q I h=>jGh ho ha U s Z H Q I (jG8 hg h)
theorem jaf:DA X O E [] fNil:=by
 rintro p U s Z H Q I ⟨J,Hz,F,Y,r,R,hf,h⟩;cases hf;exact jly p U s Z H Q I (h [] H (Same.refl H) Reps.nil)
theorem jab(ha:DE X O E e fa)(hr:DA X O E es fl)(hs:autoParam (starEach (e::es) X.env=(false,eval e X.env)::starEach es X.env) zau2._auto_1):DA X O E (e::es) (jac fa fl):=by
 rintro p U s Z H Q I ⟨J,Hz,F,Y,r,R,hf,h⟩;refine jgf ha hr hs p U s Z H Q I ?_;rcases M.b_inv hf with ⟨x,e1,hf⟩|⟨x,e1,rfl⟩
 ·refine⟨J,Hz,F,Y,.ok x,R,e1,fun u H1 s1 r1=>?_⟩;rcases M.b_inv hf with ⟨xs,e2,hf⟩|⟨y,e2,rfl⟩
  ·cases hf;exact⟨J,Hz,F,Y,.ok xs,R.mono s1,e2,fun vs H2 s2 r2=>h (u::vs) H2 (s1.trans s2) (Reps.cons (r1.mono (jan s2)) r2)⟩
  ·exact⟨J,Hz,F,Y,.error y,R.mono s1,e2,h⟩
 ·exact⟨J,Hz,F,Y,.error x,R,e1,h⟩
theorem jt0{k:List D->Option D}{r:List V->Hp->VK->Prop}{Z:St}{H:Hp}{Q:VK}(hg:CaD X.K k r)(h:tD X.K O E (fL k fl) Z H Q):tCB r (tL X.K O E fl) Z H Q:=by
 obtain⟨J,Hz,F,Y,rr,R,hf,h⟩:=h;rcases M.b_inv hf with ⟨x,e1,hf⟩|⟨x,e1,rfl⟩
 ·refine⟨J,Hz,F,Y,.ok x,R,e1,fun u H1 s1 r1=>?_⟩;obtain⟨d,hd,rfl⟩:=M.o_inv hf;exact hg x d hd J H1 _ u Q (fun p hp=>(R.mono s1).fresh hp) r1 fun w H3 s3 r3=>h w H3 (s1.trans s3) r3
 ·exact⟨J,Hz,F,Y,.error x,R,e1,h⟩
theorem jaw{k:List D->Option D}{r:List V->Hp->VK->Prop}{x:Str}{id:String}{p:Pos}(hc:CallR X (.builtin id) r)(hg:CaD X.K k r)(hG:Gl X x)(hm:X.mg x=none)(hv:bootBuiltins x=some (.builtin id))(ha:DA X O E (e::es) fl)
  (hn:autoParam (x≠"__name__") zau1._auto_1) (hdb:autoParam (qj x) zau1._auto_1) (he:autoParam (starEach (e::es) X.env=(false,eval e X.env)::starEach es X.env) zau2._auto_1) (hpl:autoParam ((backTo pos (starEach es X.env)).any (·.1)=false) zau2._auto_1) :
  DE X O E (.Call (.Name x p) (e::es) [] pos) (fL k fl):=fun U s Z H Q I h=>jws hc hG hm hv ha hn hdb he hpl U s Z H Q I (jt0 hg h)
theorem jez{k:List D->Option D}{r:List V->Hp->VK->Prop}{x:Str}{T:String}{p:Pos}(hc:CallR X (.type T) r)(hg:CaD X.K k r)(hG:Gl X x)(hm:X.mg x=none)(hv:bootBuiltins x=some (.type T))(ha:DA X O E (e::es) fl)
  (hn:autoParam (x≠"__name__") zau1._auto_1) (hdb:autoParam (qj x) zau1._auto_1) (he:autoParam (starEach (e::es) X.env=(false,eval e X.env)::starEach es X.env) zau2._auto_1) (hpl:autoParam ((backTo pos (starEach es X.env)).any (·.1)=false) zau2._auto_1) :
  DE X O E (.Call (.Name x p) (e::es) [] pos) (fL k fl):=fun U s Z H Q I h=>jgg hc hG hm hv ha hn hdb he hpl U s Z H Q I (jt0 hg h)
noncomputable def jcy(xs:List D):Option D:=if xs.length<=sizeLine then some (.tup xs) else none
noncomputable def jbi(xs:List D):Option D:=if xs.length<=sizeLine then some (.lst xs) else none
theorem jb4{J:Rho}{K:W.Frag}{H:Hp}{G:qf}{p:Addr}{vs:List V}{ds:List D}(hp:H p=none)(hG:G p=false)(h:Reps J K (hid H G) ds vs):Rep J K (hid (upd H p (.tup vs)) G) (.tup ds) (.ref p) :=
 rep_tup.mpr ⟨p,vs,rfl,SqT.of (hid_some.mpr ⟨hG,jaq⟩),h.mono (jan (jax hp))⟩
theorem jfl{J:Rho}{K:W.Frag}{H:Hp}{G:qf}{p:Addr}{vs:List V}{ds:List D}(hp:H p=none)(hG:G p=false)(h:Reps J K (hid H G) ds vs):Rep J K (hid (upd H p (.lst vs)) G) (.lst ds) (.ref p) :=
 rep_lst.mpr ⟨p,vs,rfl,SqL.of (hid_some.mpr ⟨hG,jaq⟩),h.mono (jan (jax hp))⟩
theorem jcm{x1}(h:DA X O E es fl):DE X O E (.Tuple es x1 pos) (fL jcy fl):=by
 rintro U s Z H Q I ⟨J,Hz,F,Y,rr,R,hf,k⟩;refine jDn h U s Z H Q I ?_;rcases M.b_inv hf with ⟨x,e1,hf⟩|⟨x,e1,rfl⟩
 ·refine⟨J,Hz,F,Y,.ok x,R,e1,fun u H1 s1 r1=>?_⟩;obtain⟨d,hd,rfl⟩:=M.o_inv hf;unfold jcy at hd
  split at hd
  ·rename_i hz;cases hd;exact⟨by rw[r1.length];exact hz,fun p hp=>k _ _ (s1.trans (jax hp)) (jb4 hp ((R.mono s1).fresh hp) r1)⟩
  ·cases hd
 ·exact⟨J,Hz,F,Y,.error x,R,e1,k⟩
theorem jqj(h:DA X O E es fl):DE X O E (.List es pos) (fL jbi fl):=by
 rintro U s Z H Q I ⟨J,Hz,F,Y,rr,R,hf,k⟩;refine juo h U s Z H Q I ?_;rcases M.b_inv hf with ⟨x,e1,hf⟩|⟨x,e1,rfl⟩
 ·refine⟨J,Hz,F,Y,.ok x,R,e1,fun u H1 s1 r1=>?_⟩;obtain⟨d,hd,rfl⟩:=M.o_inv hf;unfold jbi at hd
  split at hd
  ·rename_i hz;cases hd;exact⟨by rw[r1.length];exact hz,fun p hp=>k _ _ (s1.trans (jax hp)) (jfl hp ((R.mono s1).fresh hp) r1)⟩
  ·cases hd
 ·exact⟨J,Hz,F,Y,.error x,R,e1,k⟩
def fAnd(fa fb:DSt->M D):DSt->M D:=fun Y=>(fa Y).b fun x=>match x with
 | .bl true=>fb Y
 | .bl false=>M.p (.bl false)
 | _=>none
def fOr(fa fb:DSt->M D):DSt->M D:=fun Y=>(fa Y).b fun x=>match x with
 | .bl true=>M.p (.bl true)
 | .bl false=>fb Y
 | _=>none
noncomputable def gNot:D->Option D
 | .bl b=>some (.bl !b)
 | _=>none
def tAnd(ta tb:DSt->M Bool):DSt->M Bool:=fun Y=>(ta Y).b fun x=>if x=true then tb Y else M.p false
def tOr(ta tb:DSt->M Bool):DSt->M Bool:=fun Y=>(ta Y).b fun x=>if x=true then M.p true else tb Y
def tNot(ta:DSt->M Bool):DSt->M Bool:=fun Y=>(ta Y).b fun x=>M.p !x
noncomputable def fIf(tc:DSt->M Bool)(fa fb:DSt->M D):DSt->M D:=fun Y=>(tc Y).b fun x=>if x=true then fa Y else fb Y
variable {rest:List Expr}{ta tb' tc:DSt->M Bool}
theorem jnp{op}(h:DE X O E a fa):DE X O E (.BoolOp op [a] pos) fa:=fun U s Z H Q I hw=>jDk h U s Z H Q I hw
theorem jqi(ha:DE X O E a fa)(hb:DE X O E (.BoolOp .And (b::rest) pos) fb):DE X O E (.BoolOp .And (a::b::rest) pos) (fAnd fa fb):=by
 rintro U s Z H Q I ⟨J,Hz,F,Y,rr,R,hf,k⟩;refine jDg ha hb U s Z H Q I ?_;rcases M.b_inv hf with ⟨x,e1,hf⟩|⟨x,e1,rfl⟩
 ·refine⟨J,Hz,F,Y,.ok x,R,e1,fun u H1 s1 r1=>?_⟩
  cases x with
  | bl z =>
   refine⟨z,rep_bl.mp r1,?_⟩
   cases z with
   | true =>
    refine iteT ⟨J,Hz,F,Y,rr,R.mono s1,hf,?_⟩
    cases rr with
    | ok d=>exact fun v H' s' r'=>k v H' (s1.trans s') r'
    | error y=>exact k
   | false =>
    refine iteF ?_;cases hf;exact k _ H1 s1 (rep_bl.mpr rfl)
  | _=>cases hf
 ·exact⟨J,Hz,F,Y,.error x,R,e1,k⟩
theorem jFe(ha:DE X O E a fa)(hb:DE X O E (.BoolOp .Or (b::rest) pos) fb):DE X O E (.BoolOp .Or (a::b::rest) pos) (fOr fa fb):=by
 rintro U s Z H Q I ⟨J,Hz,F,Y,rr,R,hf,k⟩;refine jGg ha hb U s Z H Q I ?_;rcases M.b_inv hf with ⟨x,e1,hf⟩|⟨x,e1,rfl⟩
 ·refine⟨J,Hz,F,Y,.ok x,R,e1,fun u H1 s1 r1=>?_⟩
  cases x with
  | bl z =>
   refine⟨z,rep_bl.mp r1,?_⟩
   cases z with
   | true =>
    refine iteT ?_;cases hf;exact k _ H1 s1 (rep_bl.mpr rfl)
   | false =>
    refine iteF ⟨J,Hz,F,Y,rr,R.mono s1,hf,?_⟩
    cases rr with
    | ok d=>exact fun v H' s' r'=>k v H' (s1.trans s') r'
    | error y=>exact k
  | _=>cases hf
 ·exact⟨J,Hz,F,Y,.error x,R,e1,k⟩
theorem js3(ha:DE X O E a fa):DE X O E (.UnaryOp .Not a pos) (f1 gNot fa):=by
 rintro U s Z H Q I ⟨J,Hz,F,Y,rr,R,hf,k⟩;refine jDj ha U s Z H Q I ?_;rcases M.b_inv hf with ⟨x,e1,hf⟩|⟨x,e1,rfl⟩
 ·refine⟨J,Hz,F,Y,.ok x,R,e1,fun u H1 s1 r1=>?_⟩
  cases x with
  | bl z=>cases hf;exact⟨z,rep_bl.mp r1,k _ H1 s1 (rep_bl.mpr rfl)⟩
  | _=>cases hf
 ·exact⟨J,Hz,F,Y,.error x,R,e1,k⟩
def DW(X:Cx)(O:List Nat)(E:XK)(e:Expr)(f:DSt->M Bool):Prop:=PW X e (tB X.K O E f)
theorem DW.dt{f:DSt->M Bool}(h:DW X O E e f):DT X O E e f:=PW.pt h
theorem jtb(ha:DT X O E a ta):DW X O E (.BoolOp .And [a] pos) ta:=jAb ha
theorem jjb(ha:DT X O E a ta):DW X O E (.BoolOp .Or [a] pos) ta:=jDy ha
theorem jxv(ha:DT X O E a ta)(hb:DW X O E (.BoolOp .And (b::rest) pos) tb'):DW X O E (.BoolOp .And (a::b::rest) pos) (tAnd ta tb'):=by
 rintro wh U s Z H Q I ⟨J,Hz,F,Y,rr,R,hf,k⟩;refine jDx ha hb wh U s Z H Q I ?_;rcases M.b_inv hf with ⟨x,e1,hf⟩|⟨x,e1,rfl⟩
 ·refine⟨J,Hz,F,Y,.ok x,R,e1,fun H1 s1=>?_⟩
  cases x with
  | true =>
   refine iteT ⟨J,Hz,F,Y,rr,R.mono s1,hf,?_⟩
   cases rr with
   | ok d=>exact fun H' s'=>k H' (s1.trans s')
   | error y=>exact k
  | false=>cases hf;exact iteF (k H1 s1)
 ·exact⟨J,Hz,F,Y,.error x,R,e1,k⟩
theorem jmo(ha:DT X O E a ta)(hb:DW X O E (.BoolOp .Or (b::rest) pos) tb'):DW X O E (.BoolOp .Or (a::b::rest) pos) (tOr ta tb'):=by
 rintro wh U s Z H Q I ⟨J,Hz,F,Y,rr,R,hf,k⟩;refine jGl ha hb wh U s Z H Q I ?_;rcases M.b_inv hf with ⟨x,e1,hf⟩|⟨x,e1,rfl⟩
 ·refine⟨J,Hz,F,Y,.ok x,R,e1,fun H1 s1=>?_⟩
  cases x with
  | true=>cases hf;exact iteT (k H1 s1)
  | false =>
   refine iteF ⟨J,Hz,F,Y,rr,R.mono s1,hf,?_⟩
   cases rr with
   | ok d=>exact fun H' s'=>k H' (s1.trans s')
   | error y=>exact k
 ·exact⟨J,Hz,F,Y,.error x,R,e1,k⟩
theorem jh5(ha:DT X O E a ta):DT X O E (.UnaryOp .Not a pos) (tNot ta):=by
 rintro U s Z H Q I ⟨J,Hz,F,Y,rr,R,hf,k⟩;refine jDv ha U s Z H Q I ?_;rcases M.b_inv hf with ⟨x,e1,hf⟩|⟨x,e1,rfl⟩
 ·cases hf;exact⟨J,Hz,F,Y,.ok x,R,e1,fun H1 s1=>k H1 s1⟩
 ·exact⟨J,Hz,F,Y,.error x,R,e1,k⟩
noncomputable def truD:D->Option Bool
 | .non=>some false
 | .bl b=>some b
 | .int i=>some (i != 0)
 | .str x=>if x.length<=sizeLine then some ((x.length:Int) != 0) else none
 | .tup xs=>some !xs.isEmpty
 | .lst xs=>some !xs.isEmpty
 | _=>none
def tTru(fa:DSt->M D):DSt->M Bool:=fun Y=>(fa Y).b fun x=>M.o (truD x)
theorem isE{J:Rho}{K:W.Frag}{H:Hp}{ds:List D}{xs:List V}(h:Reps J K H ds xs):xs.isEmpty=ds.isEmpty:=by
 cases ds with
 | nil=>rw[reps_nil.mp h];rfl
 | cons d ds=>obtain⟨v,r,rfl,_⟩:=reps_cons.mp h;rfl
theorem je0(ha:DE X O E a fa)(he:autoParam (∀ whole,isTrue a X.env whole=(do let v <- whole;standAt a.pos;holding [v] (truthy v))) zau6._auto_1):DT X O E a (tTru fa):=by
 rintro U s Z H Q I ⟨J,Hz,F,Y,rr,R,hf,k⟩;refine jw3 ha he U s Z H Q I ?_;rcases M.b_inv hf with ⟨x,e1,hf⟩|⟨x,e1,rfl⟩
 ·refine⟨J,Hz,F,Y,.ok x,R,e1,fun u H1 s1 r1=>?_⟩;obtain⟨z,hz,rfl⟩:=M.o_inv hf;refine⟨z,?_,k H1 s1⟩
  cases x with
  | non=>cases hz;rw[rep_non.mp r1];rfl
  | bl y=>cases hz;rw[rep_bl.mp r1];rfl
  | int i=>cases hz;rw[rep_int.mp r1];rfl
  | str y =>
   by_cases hl:y.length<=sizeLine
   ·have e:truD (.str y)=some ((y.length:Int) != 0):=if_pos hl;rw[e] at hz;cases hz
    rw[rep_str.mp r1];exact⟨hl,rfl⟩
   ·have e:truD (.str y)=none:=if_neg hl;rw[e] at hz;cases hz
  | tup ds =>
   cases hz;obtain⟨q,xs,rfl,q2,q3⟩:=rep_tup.mp r1;exact .inr (.inl ⟨xs,jdl jao q2,by rw[isE q3]⟩)
  | lst ds =>
   cases hz;obtain⟨q,xs,rfl,q2,q3⟩:=rep_lst.mp r1;exact .inl ⟨xs,jdi jao q2,by rw[isE q3]⟩
  | ty n=>cases hz
  | obj n=>cases hz
 ·exact⟨J,Hz,F,Y,.error x,R,e1,k⟩
theorem js1(hc:DT X O E c tc)(ha:DE X O E a fa)(hb:DE X O E b fb):DE X O E (.IfExp c a b pos) (fIf tc fa fb):=by
 rintro U s Z H Q I ⟨J,Hz,F,Y,rr,R,hf,k⟩;refine jww hc ha hb U s Z H Q I ?_;rcases M.b_inv hf with ⟨x,e1,hf⟩|⟨x,e1,rfl⟩
 ·refine⟨J,Hz,F,Y,.ok x,R,e1,fun H1 s1=>?_⟩
  cases x with
  | true =>
   refine iteT ⟨J,Hz,F,Y,rr,R.mono s1,hf,?_⟩
   cases rr with
   | ok d=>exact fun v H' s' r'=>k v H' (s1.trans s') r'
   | error y=>exact k
  | false =>
   refine iteF ⟨J,Hz,F,Y,rr,R.mono s1,hf,?_⟩
   cases rr with
   | ok d=>exact fun v H' s' r'=>k v H' (s1.trans s') r'
   | error y=>exact k
 ·exact⟨J,Hz,F,Y,.error x,R,e1,k⟩
end
inductive Out where
 | nx (Y:DSt)|rt (d:D)|bk (Y:DSt)|ct (Y:DSt)
def Ok(J:Rho)(K:W.Frag)(O' B:List Nat)(E:XK)(Hz:Hp)(F:qf)(Hv:Hp)(Dn:Ends):Except XD Out->Prop
 | .ok (.nx Y')=>∀ Z' H',Same Hv (hid H' (fob F Z' O'))->RS J K Hz H' F O' Z' Y'->Dn.nx Z' H'
 | .ok (.rt d)=>∀ v H',Same Hz H'->Rep J K (hid H' F) d v->Dn.rt v H'
 | .ok (.bk Y')=>∀ Z' H',Same Hv (hid H' (fob F Z' B))->RS J K Hz H' F B Z' Y'->Dn.bk Z' H'
 | .ok (.ct Y')=>∀ Z' H',Same Hv (hid H' (fob F Z' B))->RS J K Hz H' F B Z' Y'->Dn.ct Z' H'
 | .error x=>okX K Hz E x
inductive sD(K:W.Frag)(O O' B:List Nat)(E:XK)(g:DSt->M Out)(Dn:Ends)(Z:St)(H:Hp):Prop
 | mk (J:Rho) (Hz:Hp) (F:qf) (Y:DSt) (r:Except XD Out) (R:RS J K Hz H F O Z Y) (hf:g Y=some r) (k:Ok J K O' B E Hz F (hid H (fob F Z O)) Dn r)
def DS(X:Cx)(O O' B:List Nat)(E:XK)(st:Stmt)(g:DSt->M Out):Prop:=PS X st (sD X.K O O' B E g)
def DSs(X:Cx)(O O' B:List Nat)(E:XK)(st:List Stmt)(g:DSt->M Out):Prop:=PSs X st (sD X.K O O' B E g)
theorem Ok.back{J:Rho}{K:W.Frag}{O' B:List Nat}{E:XK}{Hz:Hp}{F:qf}{Hv Hv':Hp}{Dn:Ends}{r:Except XD Out}(e:Same Hv Hv')(h:Ok J K O' B E Hz F Hv Dn r):Ok J K O' B E Hz F Hv' Dn r:=by
 cases r with
 | error x=>exact h
 | ok o =>
  cases o with
  | nx Y'=>exact fun Z' H' f=>h Z' H' (e.trans f)
  | bk Y'=>exact fun Z' H' f=>h Z' H' (e.trans f)
  | ct Y'=>exact fun Z' H' f=>h Z' H' (e.trans f)
  | rt d=>exact h
def gNx:DSt->M Out:=fun Y=>M.p (.nx Y)
def gSeq(g1 g2:DSt->M Out):DSt->M Out:=fun Y=>(g1 Y).b fun o=>match o with
 | .nx Y'=>g2 Y'
 | o=>M.p o
def gSet(i:Nat)(f:DSt->M D):DSt->M Out:=fun Y=>(f Y).b fun d=>M.p (.nx (Y.set i (some d)))
def gRet(f:DSt->M D):DSt->M Out:=fun Y=>(f Y).b fun d=>M.p (.rt d)
def jFs(f:DSt->M D):DSt->M Out:=fun Y=>(f Y).b fun _=>M.p (.nx Y)
noncomputable def gIf(t:DSt->M Bool)(g1 g2:DSt->M Out):DSt->M Out:=fun Y=>(t Y).b fun b=>if b=true then g1 Y else g2 Y
def gBrk:DSt->M Out:=fun Y=>M.p (.bk Y)
def gCnt:DSt->M Out:=fun Y=>M.p (.ct Y)
def gApp(i:Nat)(f:DSt->M D):DSt->M Out:=fun Y=>(f Y).b fun d=>match (Y[i]?).join with
 | some (.lst ds)=>if ds.length<sizeLine then M.p (.nx (Y.set i (some (.lst (ds++[d]))))) else none
 | _=>none
def forD(g:DSt->M Out)(tg:D->DSt->Option DSt):List D->DSt->M Out
 | [],Y=>M.p (.nx Y)
 | d::ds,Y=>match tg d Y with
  | none=>none
  | some Y1=>(g Y1).b fun o=>match o with
   | .nx Y'=>forD g tg ds Y'
   | .ct Y'=>forD g tg ds Y'
   | .bk Y'=>M.p (.nx Y')
   | .rt v=>M.p (.rt v)
def gFor(fi:DSt->M (List D))(tg:D->DSt->Option DSt)(g:DSt->M Out):DSt->M Out:=fun Y=>(fi Y).b fun ds=>forD g tg ds Y
def jdm(t:DSt->M Bool)(g:DSt->M Out):Nat->DSt->M Out
 | 0,_=>none
 | n+1,Y=>(t Y).b fun b=>if b=true then (g Y).b fun o=>match o with
   | .nx Y'=>jdm t g n Y'
   | .ct Y'=>jdm t g n Y'
   | .bk Y'=>M.p (.nx Y')
   | .rt v=>M.p (.rt v)
  else M.p (.nx Y)
section
variable {J:Rho}{X:Cx}{O O' O'' B:List Nat}{E:XK}{b c e:Expr}{es:List Expr}{fa:DSt->M D}{fl:DSt->M (List D)}{pos:Pos}{st:Stmt}{rest:List Stmt}{g g1 g2:DSt->M Out}{tc:DSt->M Bool}
theorem jbl:DSs X O O B E [] gNx:=by
 rintro U s Z H Dn I ⟨J,Hz,F,Y,r,R,hf,h⟩;cases hf;exact juw U s Z H Dn I (h Z H (Same.refl _) R)
theorem jag(h1:DS X O O' B E st g1)(h2:DSs X O' O'' B E rest g2):DSs X O O'' B E (st::rest) (gSeq g1 g2):=by
 rintro U s Z H Dn I ⟨J,Hz,F,Y,r,R,hf,h⟩;refine jq5 h1 h2 U s Z H Dn I ?_;rcases M.b_inv hf with ⟨o,e1,hf⟩|⟨x,e1,rfl⟩
 ·refine⟨J,Hz,F,Y,.ok o,R,e1,?_⟩
  cases o with
  | nx Y'=>exact fun Z' H' f R'=>⟨J,Hz,F,Y',r,R',hf,h.back f⟩
  | rt d=>cases hf;exact h
  | bk Y'=>cases hf;exact h
  | ct Y'=>cases hf;exact h
 ·exact⟨J,Hz,F,Y,.error x,R,e1,h⟩
theorem jaj(h1:DS X O O' B E st g):DSs X O O' B E [st] g:=fun U s Z H Dn I h=>jpz h1 U s Z H Dn I h
theorem jeu{sts:List Stmt}(hO:∀ i∈O',i∈O)(h:DSs X O' O'' B E sts g):DSs X O O'' B E sts g:=by
 rintro U s Z H Dn I ⟨J,Hz,F,Y,r,R,hf,k⟩;refine h U s Z H Dn I ⟨J,Hz,F,Y,r,R.thaw hO,hf,k.back (jek fun b q=>?_)⟩;rcases fob_t.mp q with q|⟨i,hi,q⟩
 ·exact fob_t.mpr (.inl q)
 ·exact fob_t.mpr (.inr ⟨i,hO i hi,q⟩)
theorem jtw{F:qf}{Z:St}{O O':List Nat}(hO:∀ i∈O',i∈O):∀ b,fob F Z O' b=true->fob F Z O b=true:=fun b q=>by
 rcases fob_t.mp q with q|⟨i,hi,q⟩
 ·exact fob_t.mpr (.inl q)
 ·exact fob_t.mpr (.inr ⟨i,hO i hi,q⟩)
theorem jq7{F:qf}{Z:St}{H H':Hp}{i:Nat}{v:V}(ho:i∉O)(s1:Same H H'):Same (hid H (fob F Z O)) (hid H' (fob F (Z.set i (some v)) O)):=by
 rw[jcj ho];exact jan s1
theorem jav{i:Nat}{x:Str}{pos':Pos}(hN:X.N.Nodup)(he:DE X O E e fa)(ho:autoParam (O.contains i=false) zau2._auto_1)(hi:autoParam (X.N[i]? = some x) zau2._auto_1)(hx:autoParam (Loc X.env.scope x) zau7._auto_1)(hs:autoParam (swapsWith e (some (.Name x pos')) pos.line X.env=pure false) zau2._auto_1)
  (hf:autoParam (qi X x) zau0._auto_1):DS X O O B E (.Assign [.Name x pos'] e pos) (gSet i fa):=by
 rintro U s Z H Dn I ⟨J,Hz,F,Y,r,R,hg,k⟩;have ho':i∉O:=fun z=>by rw[zcx.mpr z] at ho;cases ho
 refine jok hN hi hx he hs hf U s Z H Dn I ?_;rcases M.b_inv hg with ⟨d,e1,hg⟩|⟨y,e1,rfl⟩
 ·cases hg;exact⟨J,Hz,F,Y,.ok d,R,e1,fun v H' s' r'=>k _ H' (jq7 ho' s') ((R.mono s').set ho' r')⟩
 ·exact⟨J,Hz,F,Y,.error y,R,e1,k⟩
theorem jh4{i:Nat}{x:Str}{pos' pos2:Pos}(hN:X.N.Nodup)(h:DA X O E es fl)(ho:autoParam (O.contains i=false) zau2._auto_1)(hi:autoParam (X.N[i]? = some x) zau2._auto_1)(hx:autoParam (Loc X.env.scope x) zau7._auto_1)(hs:autoParam (swapsWith (.List es pos2) (some (.Name x pos')) pos.line X.env=pure false) zau2._auto_1)
  (hf:autoParam (qi X x) zau0._auto_1):DS X O (i::O) B E (.Assign [.Name x pos'] (.List es pos2) pos) (gSet i (fL jbi fl)):=by
 rintro U s Z H Dn I ⟨J,Hz,F,Y,r,R,hg,k⟩;have ho':i∉O:=fun z=>by rw[zcx.mpr z] at ho;cases ho
 have hl:i<Y.length:=by rw[<- R.len,I.len];exact (zbc.mp hi).1
 refine jok hN hi hx (juo h) hs hf U s Z H Dn I ?_;rcases M.b_inv hg with ⟨d,e1,hg⟩|⟨y,e1,rfl⟩
 ·cases hg;rcases M.b_inv e1 with ⟨ds,e1,hd⟩|⟨y,e1,z⟩
  ·refine⟨J,Hz,F,Y,.ok ds,R,e1,fun vs H1 s1 r1=>?_⟩;obtain⟨d',hd',z⟩:=M.o_inv hd;cases z;unfold jbi at hd'
   split at hd'
   ·rename_i hz;cases hd';refine⟨by rw[r1.length];exact hz,fun p hp=>?_⟩;refine k _ _ ?_ (R.take ho' hl s1 hp r1);have pf:=(R.mono s1).fresh hp;have lZ:i<Z.length:=by rw[R.len];exact hl
    intro b o q;obtain⟨q1,q2⟩:=hid_some.mp q;have q3:=s1 b o q2;have hb:b≠p:=jaz q3 hp;refine hid_some.mpr ⟨?_,by rw[jar hb];exact q3⟩
    cases z:fob F (Z.set i (some (.ref p))) (i::O) b with
    | false=>rfl
    | true =>
     rcases fob_t.mp z with z|⟨j,hj,z⟩
     ·rw[fob_t.mpr (.inl z)] at q1;cases q1
     ·rcases List.mem_cons.mp hj with rfl|hj
      ·rw[zcv lZ] at z;cases z;exact absurd rfl hb
      ·rw[zba (by rintro rfl;exact ho' hj)] at z;rw[fob_t.mpr (.inr ⟨j,hj,z⟩)] at q1;cases q1
   ·cases hd'
  ·cases z
 ·rcases M.b_inv e1 with ⟨ds,e1,hd⟩|⟨y',e1,z⟩
  ·obtain⟨_,_,z⟩:=M.o_inv hd;cases z
  ·cases z;exact⟨J,Hz,F,Y,.error _,R,e1,k⟩
theorem jat(he:DE X O E e fa):DS X O O' B E (.Return (some e) pos) (gRet fa):=by
 rintro U s Z H Dn I ⟨J,Hz,F,Y,r,R,hg,k⟩;refine juu he U s Z H Dn I ?_;rcases M.b_inv hg with ⟨d,e1,hg⟩|⟨y,e1,rfl⟩
 ·cases hg;exact⟨J,Hz,F,Y,.ok d,R,e1,fun v H' s' r'=>k v H' (R.same.trans s') (r'.mono (jek fun b q=>fob_t.mpr (.inl q)))⟩
 ·exact⟨J,Hz,F,Y,.error y,R,e1,k⟩
theorem jd9{s1 s2:List Stmt}(hc:DT X O E c tc)(h1:DSs X O O' B E s1 g1)(h2:DSs X O O' B E s2 g2):DS X O O' B E (.If c s1 s2 pos) (gIf tc g1 g2):=by
 rintro U s Z H Dn I ⟨J,Hz,F,Y,r,R,hg,k⟩;refine jDt hc h1 h2 U s Z H Dn I ?_;rcases M.b_inv hg with ⟨z,e1,hg⟩|⟨y,e1,rfl⟩
 ·refine⟨J,Hz,F,Y,.ok z,R,e1,fun H1 s1=>?_⟩
  cases z with
  | true=>exact iteT ⟨J,Hz,F,Y,r,R.mono s1,hg,k.back (jan s1)⟩
  | false=>exact iteF ⟨J,Hz,F,Y,r,R.mono s1,hg,k.back (jan s1)⟩
 ·exact⟨J,Hz,F,Y,.error y,R,e1,k⟩
theorem jBi:DS X B O' B E (.Continue pos) gCnt:=by
 rintro U s Z H Dn I ⟨J,Hz,F,Y,r,R,hf,h⟩;cases hf;exact jpy U s Z H Dn I (h Z H (Same.refl _) R)
theorem jh3{i:Nat}{x:Str}{p1 p2 p3:Pos}(ho:O.contains i=true)(he:DE X O E e fa)(hi:autoParam (X.N[i]? = some x) zau2._auto_1)(hv:autoParam (Vis X.env.scope x) zau4._auto_1)
  (hd:autoParam (qj x) zau1._auto_1) (hcd:autoParam ((x == ("__classdict__":Str))=false) zau1._auto_1) (hbase:autoParam (attributeBase (.Name x p1) "append" X.env (eval (.Name x p1) X.env)=eval (.Name x p1) X.env) zau2._auto_1)
  (hfew:((backTo p3 (starEach [e] X.env)).all (fun x=>!x.1)&&(backToKw p3 (keywordEach [] X.env)).all (fun x=>x.1.isSome)
   && decide ([e].length+([]:List Keyword).length+(if ([]:List Keyword).isEmpty then 0 else 1)<30))=true:=by rfl)
  (hline:autoParam ((p2.endLine == p3.line)=true) zau2._auto_1) (hs:autoParam (starEach [e] X.env=[(false,eval e X.env)]) zau2._auto_1) (hsw:autoParam (swapsWith (.Call (.Attribute (.Name x p1) "append" p2) [e] [] p3) none pos.line X.env=pure false) zau2._auto_1) :
  DS X O O B E (.Expr (.Call (.Attribute (.Name x p1) "append" p2) [e] [] p3) pos) (gApp i fa):=by
 rintro U s Z H Dn I ⟨J,Hz,F,Y,r,R,hg,k⟩;have ho':i∈O:=zcx.mp ho;obtain⟨l,xs0,ds0,q1,q2,q3,q4,q5⟩:=R.own i ho';refine jm2 (jz2 PySem.F.plainAttrs_list PySem.F.slot_list_append PySem.F.type_list_append jgd (jlz hi hv hd hcd) (jgf he jly hs) hbase hfew hline hs rfl) hsw U s Z H Dn I ?_;refine⟨.ref l,q2,.inl ⟨rfl,_,SqL.of q3⟩,?_⟩;rcases M.b_inv hg with ⟨d,e1,hg⟩|⟨y,e1,rfl⟩
 ·refine⟨J,Hz,F,Y,.ok d,R,e1,fun v H1 s1 r1=>?_⟩;have hj:(Y[i]?).join=some (.lst ds0):=by rw[q1];rfl
  rw[hj] at hg;dsimp only at hg
  split at hg
  ·rename_i hz;cases hg;have R1:=R.mono s1;obtain⟨l',xs,ds,p1,p2,p3,p4,p5⟩:=R1.own i ho';rw[q2] at p2;cases p2
   rw[q1] at p1;cases p1
   refine⟨l,xs,v,rfl,rfl,p3,by rw[p5.length];exact hz,?_⟩;refine k Z _ ?_ (R1.write ho' q2 (p5.append (Reps.cons r1 Reps.nil)));rw[jc1 (fob_t.mpr (.inr ⟨i,ho',q2⟩))];exact jan s1
  ·cases hg
 ·exact⟨J,Hz,F,Y,.error y,R,e1,k⟩
inductive tG(K:W.Frag)(O:List Nat)(h:D->DSt->Option DSt)(v:V)(Z:St)(H:Hp)(Q:St->Hp->Prop):Prop
 | mk (J:Rho) (Hz:Hp) (F:qf) (Y:DSt) (d:D) (Y':DSt) (R:RS J K Hz H F O Z Y) (hr:Rep J K (hid H (fob F Z O)) d v) (hf:h d Y=some Y') (k:∀ Z',fob F Z' O=fob F Z O->RS J K Hz H F O Z' Y'->Q Z' H)
def DG(X:Cx)(O:List Nat)(tg:Expr)(h:D->DSt->Option DSt):Prop:=PG X tg (tG X.K O h)
noncomputable def gName(i:Nat):D->DSt->Option DSt:=fun d Y=>some (Y.set i (some d))
noncomputable def jcq(i j:Nat):D->DSt->Option DSt:=fun d Y=>match d with
 | .tup [x,y]=>some ((Y.set i (some x)).set j (some y))
 | _=>none
theorem jau{i:Nat}{x:Str}(hN:X.N.Nodup)(ho:autoParam (O.contains i=false) zau2._auto_1)(hi:autoParam (X.N[i]? = some x) zau2._auto_1)(hx:autoParam (Loc X.env.scope x) zau7._auto_1)
  (hf:autoParam (qi X x) zau0._auto_1):DG X O (.Name x pos) (gName i):=by
 rintro U s Z H v u Q I r ⟨J,Hz,F,Y,d,Y',R,rd,e,k⟩;have ho':i∉O:=fun z=>by rw[zcx.mpr z] at ho;cases ho
 cases e;exact jpx hN hi hx hf U s Z H v u Q I r (k _ (jcj ho') (R.set ho' rd))
theorem jc0{i j:Nat}{x y:Str}{px py:Pos}{kk:Nat}(hc:X.calm=true)(hN:X.N.Nodup)(ho:autoParam (O.contains i=false) zau2._auto_1)(ho2:autoParam (O.contains j=false) zau2._auto_1)(hi:autoParam (X.N[i]? = some x) zau2._auto_1)(hj:autoParam (X.N[j]? = some y) zau2._auto_1)
  (hx:autoParam (Loc X.env.scope x) zau7._auto_1) (hy:autoParam (Loc X.env.scope y) zau7._auto_1)
  (hf:autoParam (qi X x) zau0._auto_1) (hf2:autoParam (X.fn y=true\/X.env.scope.names.lookup y=some .local) zau0._auto_1) :
  DG X O (.Tuple [.Name x px,.Name y py] kk pos) (jcq i j):=by
 rintro U s Z H v u Q I r ⟨J,Hz,F,Y,d,Y',R,rd,e,k⟩;have ho':i∉O:=fun z=>by rw[zcx.mpr z] at ho;cases ho
 have ho2':j∉O:=fun z=>by rw[zcx.mpr z] at ho2;cases ho2
 unfold jcq at e
 split at e
 ·rename_i d1 d2;cases e;obtain⟨p,xs,rfl,q2,q3⟩:=rep_tup.mp rd;obtain⟨v1,xs1,rfl,r1,q3⟩:=reps_cons.mp q3;obtain⟨v2,xs2,rfl,r2,q3⟩:=reps_cons.mp q3;cases reps_nil.mp q3;refine jDp hc (jq4 (jpx hN hi hx hf) (jq4 (jpx hN hj hy hf2) jz6)) rfl rfl U s Z H _ u Q I r ?_;refine⟨p,_,rfl,jdl jao q2,rfl,v1,_,rfl,v2,_,rfl,rfl,?_⟩;have e2:fob F ((Z.set i (some v1)).set j (some v2)) O=fob F Z O:=(jcj ho2').trans (jcj ho');refine k _ e2 ?_;have R1:=R.set ho' r1;exact R1.set ho2' (by rw[jcj ho'];exact r2)
 ·cases e
def ItD(J:Rho)(K:W.Frag)(Jq:It)(ds:List D)(Hv:Hp):Prop:=∀ (H':Hp) (G':qf) (i:Nat),Same Hv (hid H' G')->(∀ p,H' p=none->G' p=false) ->
 (i<ds.length->Jq.go i H'/\∀ x H2,Jq.yld i H' x H2->Same H' H2/\∃ d,ds[i]? = some d/\Rep J K (hid H2 G') d x)/\(i=ds.length->Jq.stop i H')
inductive tI(K:W.Frag)(O:List Nat)(E:XK)(f:DSt->M (List D))(Z:St)(H:Hp)(Q:It->Hp->Prop):Prop
 | mk (J:Rho) (Hz:Hp) (F:qf) (Y:DSt) (r:Except XD (List D)) (R:RS J K Hz H F O Z Y) (hf:f Y=some r) (k:match (generalizing:=false) r with
  | .ok ds=>∀ Jq H',Same H H'->ItD J K Jq ds (hid H' (fob F Z O))->Q Jq H'
  | .error x=>okX K Hz E x)
def DI(X:Cx)(O:List Nat)(E:XK)(tg iter:Expr)(f:DSt->M (List D)):Prop:=PI X tg iter (tI X.K O E f)
theorem jcd{tg iter:Expr}{body:List Stmt}{fi:DSt->M (List D)}{h:D->DSt->Option DSt}(hp:PassesOwn (model X.prog X.w) X.A X.env X.xe)(hc:X.calm=true)(hi:DI X O E tg iter fi)(hg:DG X O tg h)(hb:DSs X O O O E body g)
  (hs:autoParam (∀ x,foldedSetIterable iter X.env x=pure x) zau3._auto_1):DS X O O B E (.For tg iter body [] pos) (gFor fi h g):=by
 rintro U s Z H Dn I ⟨J,Hz,F,Y,r,R,hgf,k⟩;refine jye hp hc hi hg hb hs U s Z H Dn I ?_;rcases M.b_inv hgf with ⟨ds,e1,hgf⟩|⟨y,e1,rfl⟩
 ·refine⟨J,Hz,F,Y,.ok ds,R,e1,fun Jq H1 s1 it=>?_⟩;refine⟨fun i m Z' H'=>m=ds.length-i/\i<=ds.length/\∃ Y',RS J X.K Hz H' F O Z' Y'/\Same (hid H1 (fob F Z O)) (hid H' (fob F Z' O))/\forD g h (ds.drop i) Y'=some r,⟨ds.length,by simp,Nat.zero_le _,Y,R.mono s1,Same.refl _,hgf⟩,?_⟩;rintro i m Z' H' ⟨rfl,hil,Y',R',f',hr⟩;obtain⟨j1,j2⟩:=it H' (fob F Z' O) i f' (fun p hp=>R'.fresh hp)
  by_cases hlt:i<ds.length
  ·obtain⟨go,yld⟩:=j1 hlt;refine .inr ⟨go,fun Z2 H2=>∃ Y2,RS J X.K Hz H2 F O Z2 Y2/\Same (hid H1 (fob F Z O)) (hid H2 (fob F Z2 O))/\forD g h (ds.drop (i+1)) Y2=some r,fun Z2 H2 ⟨Y2,a1,a2,a3⟩=>⟨ds.length-(i+1),by omega,rfl,hlt,Y2,a1,a2,a3⟩,fun x H2 y=>?_⟩;obtain⟨s2,d,hd,rd⟩:=yld x H2 y;have hdr:ds.drop i=d::ds.drop (i+1):=by
    rw[List.drop_eq_getElem_cons hlt];have:ds[i]=d:=by rw[zax hlt] at hd;exact zbz hd
    rw[this]
   rw[hdr] at hr;unfold forD at hr
   cases e2:h d Y' with
   | none=>rw[e2] at hr;cases hr
   | some Y1 =>
    rw[e2] at hr;dsimp only at hr;have f2:Same (hid H1 (fob F Z O)) (hid H2 (fob F Z' O)):=f'.trans (jan s2);refine⟨J,Hz,F,Y',d,Y1,R'.mono s2,rd,e2,fun Z3 ef R3=>?_⟩;rcases M.b_inv hr with ⟨o,e3,hr⟩|⟨y,e3,rfl⟩
    ·refine⟨J,Hz,F,Y1,.ok o,R3,e3,?_⟩;rw[ef]
     cases o with
     | nx Y4=>exact fun Z4 H4 f4 R4=>⟨Y4,R4,f2.trans f4,hr⟩
     | ct Y4=>exact fun Z4 H4 f4 R4=>⟨Y4,R4,f2.trans f4,hr⟩
     | bk Y4=>cases hr;exact fun Z4 H4 f4 R4=>k Z4 H4 ((jan s1).trans (f2.trans f4)) R4
     | rt v=>cases hr;exact k
    ·exact⟨J,Hz,F,Y1,.error y,R3,e3,k⟩
  ·have ei:i=ds.length:=by omega
   subst ei;rw[List.drop_length] at hr;cases hr;exact .inl ⟨j2 rfl,k Z' H' ((jan s1).trans f') R'⟩
 ·exact⟨J,Hz,F,Y,.error y,R,e1,k⟩
theorem jql{c:Expr}{body:List Stmt}{fuel:Nat}(hp:PassesOwn (model X.prog X.w) X.A X.env X.xe)(hc:DT X O E c tc)(hb:DSs X O O O E body g):DS X O O B E (.While c body [] pos) (jdm tc g fuel):=by
 rintro U s Z H Dn I ⟨J,Hz,F,Y,r,R,hg,k⟩;refine jw2 hp hc hb U s Z H Dn I ?_;refine⟨fun m Z' H'=>∃ Y',RS J X.K Hz H' F O Z' Y'/\Same (hid H (fob F Z O)) (hid H' (fob F Z' O))/\jdm tc g m Y'=some r,⟨fuel,Y,R,Same.refl _,hg⟩,?_⟩;rintro m Z' H' ⟨Y',R',f',hr⟩
 cases m with
 | zero=>cases hr
 | succ m =>
  unfold jdm at hr;rcases M.b_inv hr with ⟨z,e1,hr⟩|⟨y,e1,rfl⟩
  ·refine⟨J,Hz,F,Y',.ok z,R',e1,fun H1 s1=>?_⟩;have f1:Same (hid H (fob F Z O)) (hid H1 (fob F Z' O)):=f'.trans (jan s1)
   cases z with
   | true =>
    rw[if_pos rfl] at hr;refine iteT ⟨fun Z2 H2=>∃ Y2,RS J X.K Hz H2 F O Z2 Y2/\Same (hid H (fob F Z O)) (hid H2 (fob F Z2 O))/\jdm tc g m Y2=some r,fun Z2 H2 ⟨Y2,a1,a2,a3⟩=>⟨m,Nat.lt_succ_self _,Y2,a1,a2,a3⟩,?_⟩;rcases M.b_inv hr with ⟨o,e3,hr⟩|⟨y,e3,rfl⟩
    ·refine⟨J,Hz,F,Y',.ok o,R'.mono s1,e3,?_⟩
     cases o with
     | nx Y4=>exact fun Z4 H4 f4 R4=>⟨Y4,R4,f1.trans f4,hr⟩
     | ct Y4=>exact fun Z4 H4 f4 R4=>⟨Y4,R4,f1.trans f4,hr⟩
     | bk Y4=>cases hr;exact fun Z4 H4 f4 R4=>k Z4 H4 (f1.trans f4) R4
     | rt v=>cases hr;exact k
    ·exact⟨J,Hz,F,Y',.error y,R'.mono s1,e3,k⟩
   | false =>
    rw[if_neg (by decide)] at hr;cases hr;exact iteF (k Z' H1 f1 (R'.mono s1))
  ·exact⟨J,Hz,F,Y',.error y,R',e1,k⟩
end
end DL
namespace L2
open PyProof.Rows
def ItOn(k:Bool)(h:Heap)(it l:Addr)(i:Nat):Prop:=if k=true then h.IsTupleIter it l i else h.IsListIter it l i
def SrcOn(k:Bool)(h:Heap)(l:Addr)(xs:Array Value):Prop:=if k=true then h.IsTuple l xs else h.IsList l xs
theorem ItOn.mv{k:Bool}{h h':Heap}{it l:Addr}{i:Nat}(x:ItOn k h it l i)(e:∀ o,h.get? it=some o->h'.get? it=some o):ItOn k h' it l i:=by
 cases k with
 | true=>exact Heap.IsTupleIter.at (h:=h) x e
 | false=>exact Heap.IsListIter.at (h:=h) x e
theorem SrcOn.mv{k:Bool}{h h':Heap}{l:Addr}{xs:Array Value}(x:SrcOn k h l xs)(e:∀ o,h.get? l=some o->h'.get? l=some o):SrcOn k h' l xs:=by
 cases k with
 | true=>exact Heap.IsTuple.at (h:=h) x e
 | false=>exact Heap.IsList.at (h:=h) x e
theorem ItOn.ob{k:Bool}{h:Heap}{it l:Addr}{i:Nat}(x:ItOn k h it l i):∃ o vs,h.get? it=some o/\o.data=.fields vs:=by
 cases k with
 | true=>obtain⟨o,e,_,d⟩:=(x:h.IsTupleIter it l i);exact⟨o,_,e,d⟩
 | false=>obtain⟨o,e,_,d⟩:=(x:h.IsListIter it l i);exact⟨o,_,e,d⟩
section
variable {prog:Program}{w:World}{A:Around}{E:qe}{s:Shared}
theorem jlv{it l:Addr}{i:Nat}{items:Array Value}{x:Value}{Q:qe}(hi:s.heap.IsTupleIter it l i)(hl:s.heap.IsTuple l items)(hx:items[i]? = some x)
  (hQ:∀ h',h'.IsTupleIter it l (i+1)->Heap.SameBut it s.heap h'->Q x { s with heap:=h' }):wpAny (model prog w) A (Builtin.SmallTypes.nextOf (.ref it)) Q E s:=by
 obtain⟨ob,eo,oc,od⟩:=id hi;obtain⟨tl,el,_,nl,dl⟩:=hl;unfold Builtin.SmallTypes.nextOf;refine zay (wpAny_callSpecial?_slot (name:=Str.ofString "__next__") hi.typeIs F.slot_tuple_iterator_next (wpAny_call_entry F.slot_tuple_iterator_next hi.typeIs F.entry_tuple_iterator_next ?_ (F.args_tuple_iterator_next_1 _)));show wpAny _ _ (field (.ref it) 0 >>= _) _ _ s;refine zay (wpAny_field eo od (x:=.ref l) rfl ?_);show wpAny _ _ (if (Value.ref l == Value.none)=true then _ else _) _ _ s;rw[if_neg (show ¬ ((Value.ref l == Value.none)=true) from fun q=>Bool.false_ne_true q)];show wpAny _ _ (field (.ref it) 1 >>= _) _ _ s;refine zay (wpAny_field eo od (x:=.int i 0) rfl (show wpAny _ _ (seqItems? (.ref l) >>= _) _ _ s from zay (wpAny_seqItems el dl ?_)));simp only[Int.toNat_natCast,hx];refine zay (wpAny_setField eo od (by simp) (zab ⟨x,rfl,zab (hQ _ ⟨_,Heap.get?_update_self _ eo (Obj.isFreed_of_fields (Obj.data_mapFields od _)),(Obj.cls_mapFields ..).trans oc,?_⟩ (Heap.SameBut.update ..))⟩));rw[Obj.data_mapFields od];simp[rawInt]
theorem jha{it l:Addr}{i:Nat}{items:Array Value}{Q:qe}(hh:A.handled=none)(hi:s.heap.IsTupleIter it l i)(hl:s.heap.IsTuple l items)(hx:items[i]? = none)
  (hE:∀ h' e,Heap.ExtBut it s.heap h'->(∃ o,h'.get? e=some o/\o.cls=.type "StopIteration")->E (.ref e) { s with heap:=h' }):wpAny (model prog w) A (Builtin.SmallTypes.nextOf (.ref it)) Q E s:=by
 obtain⟨ob,eo,oc,od⟩:=id hi;obtain⟨tl,el,_,nl,dl⟩:=hl;unfold Builtin.SmallTypes.nextOf;refine zay (wpAny_callSpecial?_slot (name:=Str.ofString "__next__") hi.typeIs F.slot_tuple_iterator_next (wpAny_call_entry F.slot_tuple_iterator_next hi.typeIs F.entry_tuple_iterator_next ?_ (F.args_tuple_iterator_next_1 _)));show wpAny _ _ (field (.ref it) 0 >>= _) _ _ s;refine zay (wpAny_field eo od (x:=.ref l) rfl ?_);show wpAny _ _ (if (Value.ref l == Value.none)=true then _ else _) _ _ s;rw[if_neg (show ¬ ((Value.ref l == Value.none)=true) from fun q=>Bool.false_ne_true q)];show wpAny _ _ (field (.ref it) 1 >>= _) _ _ s;refine zay (wpAny_field eo od (x:=.int i 0) rfl (show wpAny _ _ (seqItems? (.ref l) >>= _) _ _ s from zay (wpAny_seqItems el dl ?_)));simp only[Int.toNat_natCast,hx];refine zay (wpAny_rule (zay (wpAny_setField eo od (by simp) ?_)));show wpAny _ _ (newExc (.type "StopIteration") [] >>= _) _ _ _;refine zay ?_;simp only[newExc,newTuple];refine zay (wpAny_newObj_type (zay (m:=firstArgMember _ _) (wpAny_of_eq (a:=Value.none) (by first|rfl|(simp only[firstArgMember];rfl)) (wpAny_newObj_type ?_ (by size_fits)))) (by size_fits));simp only[raiseNew];refine zay (wpAny_handled ?_)
 first|rw[show A.in1.handled=none from hh]|rw[hh]
 exact zay (zab (wpAny_throw (hE _ _ (((Heap.SameBut.update ..).extBut.push _).push _) ⟨_,zbv _ rfl,rfl⟩)))
theorem jkr{k:Bool}{it l:Addr}{i:Nat}{items:Array Value}{x:Value}{Q:qe}(hi:ItOn k s.heap it l i)(hl:SrcOn k s.heap l items)(hx:items[i]? = some x)
  (hQ:∀ h',ItOn k h' it l (i+1)->Heap.SameBut it s.heap h'->Q x { s with heap:=h' }):wpAny (model prog w) A (Builtin.SmallTypes.nextOf (.ref it)) Q E s:=by
 cases k with
 | true=>exact jlv hi hl hx hQ
 | false=>exact wpAny_nextOf_list_item hi hl hx hQ
theorem jii{k:Bool}{it l:Addr}{i:Nat}{items:Array Value}{Q:qe}(hh:A.handled=none)(hi:ItOn k s.heap it l i)(hl:SrcOn k s.heap l items)(hx:items[i]? = none)
  (hE:∀ h' e,Heap.ExtBut it s.heap h'->(∃ o,h'.get? e=some o/\o.cls=.type "StopIteration")->E (.ref e) { s with heap:=h' }):wpAny (model prog w) A (Builtin.SmallTypes.nextOf (.ref it)) Q E s:=by
 cases k with
 | true=>exact jha hh hi hl hx hE
 | false=>exact wpAny_nextOf_list_end hh hi hl hx hE
theorem jtp{k:Bool}{l:Addr}{xs:Array Value}{Q:qe}(hl:SrcOn k s.heap l xs)
  (h:∀ o,ItOn k (s.heap.push o) s.heap.objs.size l 0->Q (.ref s.heap.objs.size) { s with heap:=s.heap.push o }):wpAny (model prog w) A (pyIter (.ref l)) Q E s:=by
 cases k with
 | true=>exact wpAny_pyIter_tuple hl (h _ ⟨_,zbv _ rfl,rfl,rfl⟩)
 | false=>exact wpAny_pyIter_list hl (h _ ⟨_,zbv _ rfl,rfl,rfl⟩)
structure ZFar(z TI TO i1 i2:Addr):Prop where
 a1:TI≠z
 a2:TO≠z
 a3:i1≠z
 a4:i2≠z
 a5:TI≠TO
 a6:TI≠i1
 a7:TI≠i2
 a8:TO≠i1
 a9:TO≠i2
 a10:i1≠i2
def LFar(z TO i1 i2 l:Addr):Prop:=l≠z/\l≠TO/\l≠i1/\l≠i2
theorem jxm{k1 k2:Bool}{z TI TO i1 i2 l1 l2:Addr}{n1 n2:Nat}{xs ys:Array Value}{x y a b:Value}{Q:qe}(D:ZFar z TI TO i1 i2)(d1:LFar z TO i1 i2 l1)(d2:LFar z TO i1 i2 l2)
  (hz:IsZip s.heap z TI TO .none) (ht:IsPair s.heap TI (.ref i1) (.ref i2)) (hu:IsPair s.heap TO a b) (j1:ItOn k1 s.heap i1 l1 n1) (j2:ItOn k2 s.heap i2 l2 n2) (c1:SrcOn k1 s.heap l1 xs) (c2:SrcOn k2 s.heap l2 ys)
  (hx:xs[n1]? = some x) (hy:ys[n2]? = some y)
  (hQ:∀ h',IsZip h' z TI TO (rawInt s.heap.objs.size)->IsPair h' TO x y->ItOn k1 h' i1 l1 (n1+1)->ItOn k2 h' i2 l2 (n2+1)->IsPair h' s.heap.objs.size x y ->
   (∀ c o,c≠z->c≠TO->c≠i1->c≠i2->s.heap.get? c=some o->h'.get? c=some o)->Q (.ref s.heap.objs.size) { s with heap:=h' }) :
  wpAny (model prog w) A (Builtin.«zip.__next__» ⟨[.ref z],[]⟩) (fun fin s'=>∃ v,fin=.done (.ret v)/\Q v s') E s:=by
 show wpAny _ _ (field (.ref z) 2 >>= _) _ _ _;refine zay (wpAny_field hz rfl (x:=.bool false) rfl (show wpAny _ _ (field (.ref z) 3 >>= _) _ _ _ from zay (wpAny_field hz rfl (x:=.ref TI) rfl (zay (wpAny_seqItems ht rfl ?_)))));show wpAny _ _ (Builtin.SmallTypes.ownedTupleIsFree (.ref z) >>= _) _ _ _;refine zay ?_;unfold Builtin.SmallTypes.ownedTupleIsFree;refine zay (wpAny_field hz rfl (x:=.none) rfl (zab ?_));simp only[if_true];refine zay (wpAny_rule (zay (wpAny_field hz rfl (x:=.ref TO) rfl (zay (wpAny_setField_rec hz (by simp) fun g1 z1 e1=>zay ?_)))))
 replace z1:IsZip g1 z TI TO .ellipsis:=z1
 simp only[List.zipIdx_cons,List.zipIdx_nil,List.forIn_cons,List.forIn_nil];refine zay (zay (wpAny_onRaise (show wpAny _ _ (Builtin.SmallTypes.nextOf (.ref i1) >>= _) _ _ _ from ?_)));refine zay (jkr (j1.mv fun o q=>e1.extBut _ _ D.a3 q) (c1.mv fun o q=>e1.extBut _ _ d1.1 q) hx fun g2 m1 e2=>zab ?_);have u2:IsPair g2 TO a b:=e2.extBut _ _ D.a8 (e1.extBut _ _ D.a2 hu);refine zay (wpAny_seqItems u2 rfl (zay (wpAny_updateSeq_pair u2 fun g3 u3 e3=>zay (wpAny_letGo (zab ?_)))))
 replace u3:IsPair g3 TO x b:=u3
 have up3:∀ c o,c≠z->c≠TO->c≠i1->s.heap.get? c=some o->g3.get? c=some o:=fun c o p1 p2 p3 q=>e3.extBut _ _ p2 (e2.extBut _ _ p3 (e1.extBut _ _ p1 q))
 refine zay (zay (wpAny_onRaise (show wpAny _ _ (Builtin.SmallTypes.nextOf (.ref i2) >>= _) _ _ _ from ?_)));refine zay (jkr (j2.mv fun o q=>up3 _ o D.a4 D.a9.symm D.a10.symm q) (c2.mv fun o q=>up3 _ o d2.1 d2.2.1 d2.2.2.1 q) hy fun g4 m2 e4=>zab ?_);have u4:IsPair g4 TO x b:=e4.extBut _ _ D.a9 u3;refine zay (wpAny_seqItems u4 rfl (zay (wpAny_updateSeq_pair u4 fun g5 u5 e5=>zay (wpAny_letGo (zab (zab ?_))))))
 replace u5:IsPair g5 TO x y:=u5
 refine zay (wpAny_seqItems u5 rfl (zay (wpAny_newTuple ?_)));have sz:g5.objs.size=s.heap.objs.size:=by rw[e5.1,e4.1,e3.1,e2.1,e1.1]
 have z5:IsZip g5 z TI TO .ellipsis:=e5.extBut _ _ D.a2.symm (e4.extBut _ _ D.a4.symm (e3.extBut _ _ D.a2.symm (e2.extBut _ _ D.a3.symm z1)));have up5:∀ c o,c≠z->c≠TO->c≠i1->c≠i2->s.heap.get? c=some o->g5.get? c=some o:=fun c o p1 p2 p3 p4 q=>e5.extBut _ _ p2 (e4.extBut _ _ p4 (up3 c o p1 p2 p3 q))
 have m15:ItOn k1 g5 i1 l1 (n1+1):=m1.mv fun o q=>e5.extBut _ _ D.a8.symm (e4.extBut _ _ D.a10 (e3.extBut _ _ D.a8.symm q))
 have m25:ItOn k2 g5 i2 l2 (n2+1):=m2.mv fun o q=>e5.extBut _ _ D.a9.symm q
 have zlt:z<g5.objs.size:=zbw z5;show wpAny _ _ (Builtin.SmallTypes.ownedTupleHandOut (.ref z) (.ref g5.objs.size) >>= _) _ _ _;refine zay ?_;unfold Builtin.SmallTypes.ownedTupleHandOut;have z6:IsZip (g5.push { cls:=.type "tuple",data:=.seq #[x,y] }) z TI TO .ellipsis:=zaz _ z5;refine zay (wpAny_setField_rec z6 (by simp) fun g7 z7 e7=>?_)
 replace z7:IsZip g7 z TI TO (rawInt g5.objs.size):=z7
 refine wpAny_setField_rec z7 (by simp) fun g8 z8 e8=>?_
 replace z8:IsZip g8 z TI TO (rawInt g5.objs.size):=z8
 have up8:∀ c o,c≠z->g5.get? c=some o->g8.get? c=some o:=fun c o p1 q=>e8.extBut _ _ p1 (e7.extBut _ _ p1 (zaz _ q))
 have t8:IsPair g8 g5.objs.size x y:=e8.extBut _ _ (Nat.ne_of_gt zlt) (e7.extBut _ _ (Nat.ne_of_gt zlt) (zbv _ rfl));rw[sz] at z8 t8;refine zab ⟨_,rfl,?_⟩;show Q (.ref g5.objs.size) _;rw[sz];exact hQ g8 z8 (up8 _ _ D.a2 u5) (m15.mv fun o q=>up8 _ o D.a3 q) (m25.mv fun o q=>up8 _ o D.a4 q) t8 fun c o p1 p2 p3 p4 q=>up8 c o p1 (up5 c o p1 p2 p3 p4 q)
theorem jA2{k1 k2:Bool}{z TI TO i1 i2 l1 l2:Addr}{n1 n2:Nat}{xs ys:Array Value}{a b:Value}{Q:PySem.Fin->Shared->Prop}(hh:A.handled=none)(D:ZFar z TI TO i1 i2)(d1:LFar z TO i1 i2 l1)(d2:LFar z TO i1 i2 l2)
  (hz:IsZip s.heap z TI TO .none) (ht:IsPair s.heap TI (.ref i1) (.ref i2)) (hu:IsPair s.heap TO a b) (j1:ItOn k1 s.heap i1 l1 n1) (j2:ItOn k2 s.heap i2 l2 n2) (c1:SrcOn k1 s.heap l1 xs) (c2:SrcOn k2 s.heap l2 ys)
  (hend:xs[n1]? = none\/ys[n2]? = none)
  (hE:∀ h' e,(∀ c o,c≠z->c≠TO->c≠i1->c≠i2->s.heap.get? c=some o->h'.get? c=some o)->(∃ o,h'.get? e=some o/\o.cls=.type "StopIteration")->E (.ref e) { s with heap:=h' }) :
  wpAny (model prog w) A (Builtin.«zip.__next__» ⟨[.ref z],[]⟩) Q E s:=by
 show wpAny _ _ (field (.ref z) 2 >>= _) _ _ _;refine zay (wpAny_field hz rfl (x:=.bool false) rfl (show wpAny _ _ (field (.ref z) 3 >>= _) _ _ _ from zay (wpAny_field hz rfl (x:=.ref TI) rfl (zay (wpAny_seqItems ht rfl ?_)))));show wpAny _ _ (Builtin.SmallTypes.ownedTupleIsFree (.ref z) >>= _) _ _ _;refine zay ?_;unfold Builtin.SmallTypes.ownedTupleIsFree;refine zay (wpAny_field hz rfl (x:=.none) rfl (zab ?_));simp only[if_true];refine zay (wpAny_rule (zay (wpAny_field hz rfl (x:=.ref TO) rfl (zay (wpAny_setField_rec hz (by simp) fun g1 z1 e1=>zay ?_)))))
 replace z1:IsZip g1 z TI TO .ellipsis:=z1
 simp only[List.zipIdx_cons,List.zipIdx_nil,List.forIn_cons,List.forIn_nil];refine zay (zay (wpAny_onRaise (show wpAny _ _ (Builtin.SmallTypes.nextOf (.ref i1) >>= _) _ _ _ from ?_)))
 cases hx:xs[n1]? with
 | none =>
  refine zay (jii hh (j1.mv fun o q=>e1.extBut _ _ D.a3 q) (c1.mv fun o q=>e1.extBut _ _ d1.1 q) hx fun g2 e f2 he=>?_);obtain⟨oe,q1,q2⟩:=he;have z2:IsZip g2 z TI TO .ellipsis:=f2 _ _ D.a3.symm z1;have nez:e≠z:=fun p=>by subst p;rw[z2] at q1;cases q1;simp at q2
  exact wpAny_setField_rec z2 (by simp) fun g3 _ e3=>hE g3 e (fun c o p1 _ p3 _ q=>e3.extBut _ _ p1 (f2 _ _ p3 (e1.extBut _ _ p1 q))) ⟨oe,e3.extBut _ _ nez q1,q2⟩
 | some x =>
  have hy:ys[n2]? = none:=by rcases hend with h|h;rw[hx] at h;cases h;exact h
  refine zay (jkr (j1.mv fun o q=>e1.extBut _ _ D.a3 q) (c1.mv fun o q=>e1.extBut _ _ d1.1 q) hx fun g2 m1 e2=>zab ?_);have u2:IsPair g2 TO a b:=e2.extBut _ _ D.a8 (e1.extBut _ _ D.a2 hu);refine zay (wpAny_seqItems u2 rfl (zay (wpAny_updateSeq_pair u2 fun g3 u3 e3=>zay (wpAny_letGo (zab ?_)))));have up3:∀ c o,c≠z->c≠TO->c≠i1->s.heap.get? c=some o->g3.get? c=some o:=fun c o p1 p2 p3 q=>e3.extBut _ _ p2 (e2.extBut _ _ p3 (e1.extBut _ _ p1 q))
  refine zay (zay (wpAny_onRaise (show wpAny _ _ (Builtin.SmallTypes.nextOf (.ref i2) >>= _) _ _ _ from ?_)));refine zay (jii hh (j2.mv fun o q=>up3 _ o D.a4 D.a9.symm D.a10.symm q) (c2.mv fun o q=>up3 _ o d2.1 d2.2.1 d2.2.2.1 q) hy fun g4 e f4 he=>?_);obtain⟨oe,q1,q2⟩:=he;have z4:IsZip g4 z TI TO .ellipsis:=f4 _ _ D.a4.symm (e3.extBut _ _ D.a2.symm (e2.extBut _ _ D.a3.symm z1));have nez:e≠z:=fun p=>by subst p;rw[z4] at q1;cases q1;simp at q2
  exact wpAny_setField_rec z4 (by simp) fun g5 _ e5=>hE g5 e (fun c o p1 p2 p3 p4 q=>e5.extBut _ _ p1 (f4 _ _ p4 (up3 c o p1 p2 p3 q))) ⟨oe,e5.extBut _ _ nez q1,q2⟩
theorem jwp{k1 k2:Bool}{z TI TO i1 i2 l1 l2:Addr}{n1 n2:Nat}{xs ys:Array Value}{x y a b:Value}{Q:Option Value->Shared->Prop}(D:ZFar z TI TO i1 i2)(d1:LFar z TO i1 i2 l1)(d2:LFar z TO i1 i2 l2)
  (hz:IsZip s.heap z TI TO .none) (ht:IsPair s.heap TI (.ref i1) (.ref i2)) (hu:IsPair s.heap TO a b) (j1:ItOn k1 s.heap i1 l1 n1) (j2:ItOn k2 s.heap i2 l2 n2) (c1:SrcOn k1 s.heap l1 xs) (c2:SrcOn k2 s.heap l2 ys)
  (hx:xs[n1]? = some x) (hy:ys[n2]? = some y)
  (hQ:∀ h',IsZip h' z TI TO (rawInt s.heap.objs.size)->IsPair h' TO x y->ItOn k1 h' i1 l1 (n1+1)->ItOn k2 h' i2 l2 (n2+1)->IsPair h' s.heap.objs.size x y ->
   (∀ c o,c≠z->c≠TO->c≠i1->c≠i2->s.heap.get? c=some o->h'.get? c=some o)->Q (some (.ref s.heap.objs.size)) { s with heap:=h' }):wpAny (model prog w) A (pyNext (.ref z)) Q E s:=by
 have ty:s.TypeIs (.ref z) "zip":=⟨_,hz,rfl⟩
 unfold pyNext;exact zay (wpAny_attempt (wpAny_callSpecial?_slot (name:=Str.ofString "__next__") ty F.slot_zip_next (wpAny_call_entry F.slot_zip_next ty F.entry_zip_next
  (jxm D d1 d2 hz ht hu j1 j2 c1 c2 hx hy fun h' b1 b2 b3 b4 b5 b6=>zab (hQ h' b1 b2 b3 b4 b5 b6)) (F.args_zip_next_1 _))))
theorem jn9{k1 k2:Bool}{z TI TO i1 i2 l1 l2:Addr}{n1 n2:Nat}{xs ys:Array Value}{a b:Value}{Q:Option Value->Shared->Prop}(hh:A.handled=none)(D:ZFar z TI TO i1 i2)(d1:LFar z TO i1 i2 l1)(d2:LFar z TO i1 i2 l2)
  (hz:IsZip s.heap z TI TO .none) (ht:IsPair s.heap TI (.ref i1) (.ref i2)) (hu:IsPair s.heap TO a b) (j1:ItOn k1 s.heap i1 l1 n1) (j2:ItOn k2 s.heap i2 l2 n2) (c1:SrcOn k1 s.heap l1 xs) (c2:SrcOn k2 s.heap l2 ys)
  (hend:xs[n1]? = none\/ys[n2]? = none)
  (hQ:∀ h',(∀ c o,c≠z->c≠TO->c≠i1->c≠i2->s.heap.get? c=some o->h'.get? c=some o)->Q none { s with heap:=h' }):wpAny (model prog w) A (pyNext (.ref z)) Q E s:=by
 have ty:s.TypeIs (.ref z) "zip":=⟨_,hz,rfl⟩
 unfold pyNext;refine zay (wpAny_attempt (wpAny_callSpecial?_slot (name:=Str.ofString "__next__") ty F.slot_zip_next (wpAny_call_entry F.slot_zip_next ty F.entry_zip_next (jA2 hh D d1 d2 hz ht hu j1 j2 c1 c2 hend fun h' e hk he=>?_) (F.args_zip_next_1 _))));obtain⟨o,ho,hc⟩:=he;exact zay (wpAny_isInstance (T:="StopIteration") (b:=true) ⟨o,ho,hc⟩ isSubtype_stop (zab (hQ _ hk)))
noncomputable abbrev zA(h:Heap)(o1 o2:Obj):Heap:=(h.push o1).push o2
abbrev zB(h:Heap)(o1 o2:Obj):Heap:=(zA h o1 o2).push { cls:=.type "tuple",data:=.seq #[.ref h.objs.size,.ref (h.push o1).objs.size] }
abbrev zC(h:Heap)(o1 o2:Obj):Heap:=(zB h o1 o2).push { cls:=.type "tuple",data:=.seq #[.none,.none] }
abbrev zD(h:Heap)(o1 o2:Obj):Heap:=(zC h o1 o2).push { cls:=.type "zip",data:=.fields #[.none,.bool false,.bool false,.ref (zA h o1 o2).objs.size,.ref (zB h o1 o2).objs.size] }
theorem jt8{k1 k2:Bool}(l1 l2:Addr)(xs ys:Array Value):Meets (Builtin.«zip.__new__» ⟨[.type "zip",.ref l1,.ref l2],[]⟩) (fun _ R s=>SrcOn k1 s.heap l1 xs/\SrcOn k2 s.heap l2 ys /\
  ∀ o1 o2,ItOn k1 (s.heap.push o1) s.heap.objs.size l1 0->ItOn k2 (zA s.heap o1 o2) (s.heap.push o1).objs.size l2 0->R (.ok (.ret (.ref (zC s.heap o1 o2).objs.size))) { s with heap:=zD s.heap o1 o2 }) :=
 .of_wp fun prog w A R s h=>by
  obtain⟨hp,g,d,tk,os⟩:=s;obtain⟨c1,c2,h⟩:=h;have hsub:=sub_zip;have q1:SrcOn k1 (Shared.heap ⟨hp,g,d,tk,os⟩) l1 xs:=c1
  wp_walk using jtp q1
  intro o1 w1;have q2:SrcOn k2 (Shared.heap ⟨hp.push o1,g,d,tk,os⟩) l2 ys:=SrcOn.mv c2 fun o e=>zaz _ e
  wp_walk using jtp q2
  intro o2 w2
  wp_walk
  exact⟨_,rfl,h o1 o2 w1 w2⟩
end
section
variable {X:Cx}{U:qd}{Z:St}{H:Hp}{s:Shared}
theorem Inv.spun{fp:List Addr}{h':Heap}{t':Nat}{T:Addr}{vs:List V}{its:List Value}(I:Inv X U Z H s)(hf:∀ b∈fp,FpOk X U H b)(k:∀ b o,b∉fp->s.heap.get? b=some o->h'.get? b=some o)
  (ko:∀ b∈fp,∃ o,h'.get? b=some o) (hT:s.heap.get? T=none) (hn:H T=none) (hv:Vals vs its) (hz:vs.length<=sizeLine) (ht:IsTup h' T its.toArray):Inv X U Z (upd H T (.tup vs)) { s with heap:=h',toks:=t' }:=by
 have nT:∀ b o,s.heap.get? b=some o->b≠T:=fun b o e z=>by rw[z,hT] at e;cases e
 have nf:∀ b u,H b=some u->b∉fp:=fun b u e z=>by rw[(hf b z).1] at e;cases e
 refine I.step (g':=s.gens) (d':=s.drawn) (ch:=fp) (fun b hb=>?_) (fun b o _ _ hc e _=>k b o hc e) (fun b o _ _ hc e _=>⟨o.slots,k b o hc e⟩) (fun b o _ e n=>by rw[jar (nT b o e)];exact n)
  (fun b o hc e=>⟨o,k b o hc e⟩) (fun b xs e=>by rw[jar (jaz e hn)];exact e) (fun b o u e=>by rw[jar (jaz e hn)];exact e) (fun b ps e=>⟨#[],by rw[jar (jaz e hn),e];simp⟩) (fun m hm=>?_) (fun b u e=>?_) I.bare
 ·obtain⟨_,f1,_,f3,f4,f5⟩:=hf b hb;exact⟨f3,f1,f4,f5⟩
 ·obtain⟨o,es,ep,ho,r⟩:=hm;exact⟨o,es,ep,k _ o (fun z=>(hf _ z).2.1 rfl) ho,r⟩
 ·by_cases hb:b=T
  ·subst hb;rw[jaq] at e;cases e
   exact⟨hz,its,hv,ht⟩
  ·rw[jar hb] at e;refine (I.hok b u e).stay (fun c v hc q=>k c v ?_ q) (fun c q=>by rw[jar (jaz q hn)];exact q) fun c xs q=>by rw[jar (jaz q hn)];exact q
   rcases hc with z|z
   ·rw[z];exact nf b u e
   ·exact nf c _ z
theorem Inv.spun0{fp:List Addr}{h':Heap}{t':Nat}(I:Inv X U Z H s)(hf:∀ b∈fp,FpOk X U H b)(k:∀ b o,b∉fp->s.heap.get? b=some o->h'.get? b=some o):Inv X U Z H { s with heap:=h',toks:=t' }:=by
 have nf:∀ b u,H b=some u->b∉fp:=fun b u e z=>by rw[(hf b z).1] at e;cases e
 refine I.step (g':=s.gens) (d':=s.drawn) (ch:=fp) (fun b hb=>?_) (fun b o _ _ hc e _=>k b o hc e) (fun b o _ _ hc e _=>⟨o.slots,k b o hc e⟩) (fun b o _ e n=>n)
  (fun b o hc e=>⟨o,k b o hc e⟩) (fun b xs e=>e) (fun b o u e=>e) (fun b ps e=>⟨#[],by rw[e];simp⟩) (fun m hm=>?_) (fun b u e=>?_) I.bare
 ·obtain⟨_,f1,_,f3,f4,f5⟩:=hf b hb;exact⟨f3,f1,f4,f5⟩
 ·obtain⟨o,es,ep,ho,r⟩:=hm;exact⟨o,es,ep,k _ o (fun z=>(hf _ z).2.1 rfl) ho,r⟩
 ·refine (I.hok b u e).stay (fun c v hc q=>k c v ?_ q) (fun c q=>q) fun c xs q=>q
  rcases hc with z|z
  ·rw[z];exact nf b u e
  ·exact nf c _ z
def SqV(k:Bool)(K:W.Frag)(H:Hp)(l:Addr)(xs:List V):Prop:=if k=true then SqT K H l xs else SqL K H l xs
theorem Inv.src{k:Bool}{l:Addr}{xs:List V}(I:Inv X U Z H s)(h:SqV k X.K H l xs):∃ its:List Value,Vals xs its/\SrcOn k s.heap l its.toArray/\xs.length<=sizeLine:=by
 cases k with
 | true =>
  obtain⟨its,r,p,z⟩:=I.tuple (h:SqT X.K H l xs);exact⟨its,r,p,z⟩
 | false =>
  obtain⟨its,r,p,z⟩:=I.list (h:SqL X.K H l xs);exact⟨its,r,p.isList,z⟩
theorem Inv.src_inj{k:Bool}{l:Addr}{xs ys:List V}(I:Inv X U Z H s)(h:SqV k X.K H l xs)(h':SqV k X.K H l ys):xs=ys:=by
 cases k with
 | true=>exact I.tuple_inj (h:SqT X.K H l xs) h'
 | false=>exact I.list_inj (h:SqL X.K H l xs) h'
theorem jgj{k:Bool}{l:Addr}{xs:List V}(I:Inv X U Z H s)(h:SqV k X.K H l xs){b:Addr}(f:FpOk X U H b):l≠b:=by
 intro e;subst e;obtain⟨f0,f1,f2,f3,_⟩:=f;have base:∀ o,X.K.lookup l=some o->False:=fun o q=>by
  have hb:=I.ok.mod.kin l o q;rcases f3 with z|z
  ·exact I.ok.noex l o hb z
  ·exact absurd (zcy (zbw hb) (zez I.ok.bsz z)) (Nat.lt_irrefl _)
 cases k with
 | true =>
  rcases (h:SqT X.K H l xs) with q|⟨o,its,n,q,_⟩
  ·rcases q with q|⟨o,q⟩<;>(rw[f0] at q;cases q)
  ·exact base o q
 | false =>
  rcases (h:SqL X.K H l xs) with q|⟨o,its,n,q,_⟩
  ·rcases q with q|⟨o,q⟩<;>(rw[f0] at q;cases q)
  ·exact base o q
end
def Itz(k1 k2:Bool)(K:W.Frag)(l1 l2:Addr):It :=
  ⟨fun i H=>∃ xs ys x y,SqV k1 K H l1 xs/\SqV k2 K H l2 ys/\xs[i]? = some x/\ys[i]? = some y,
   fun i H v H'=>∃ T x y,H T=none/\v=.ref T/\H'=upd H T (.tup [x,y])/\(∀ xs,SqV k1 K H l1 xs->xs[i]? = some x)/\(∀ ys,SqV k2 K H l2 ys->ys[i]? = some y),
   fun i H=>∃ xs ys,SqV k1 K H l1 xs/\SqV k2 K H l2 ys/\(xs.length<=i\/ys.length<=i)⟩
theorem jxf{P:Program}{w:World}{K:W.Frag}{es:List Expr}{kk:Nat}{tp:Pos}(k1 k2:Bool)(l1 l2 z TI TO i1 i2:Addr)(D:ZFar z TI TO i1 i2) :
  Turn P w K (.Tuple es kk tp) (Itz k1 k2 K l1 l2) [z,TI,TO,i1,i2] z (fun i h=>IsZip h z TI TO .none/\IsPair h TI (.ref i1) (.ref i2)/\(∃ a b,IsPair h TO a b)/\ItOn k1 h i1 l1 i/\ItOn k2 h i2 l2 i) where
 mem:=by simp
 obj:=fun i h st b hb=>by
  obtain⟨q1,q2,⟨a,b',q3⟩,q4,q5⟩:=st;simp only[List.mem_cons,List.not_mem_nil,or_false] at hb;rcases hb with rfl|rfl|rfl|rfl|rfl
  ·exact⟨_,q1,fun v e=>nomatch e⟩
  ·exact⟨_,q2,fun v e=>nomatch e⟩
  ·exact⟨_,q3,fun v e=>nomatch e⟩
  ·obtain⟨o,vs,e,d⟩:=q4.ob;exact⟨o,e,fun v z=>by rw[d] at z;cases z⟩
  ·obtain⟨o,vs,e,d⟩:=q5.ob;exact⟨o,e,fun v z=>by rw[d] at z;cases z⟩
 keep:=fun i h h' st k=>by
  obtain⟨q1,q2,⟨a,b',q3⟩,q4,q5⟩:=st;exact⟨k z (by simp) _ q1,k TI (by simp) _ q2,⟨a,b',k TO (by simp) _ q3⟩,q4.mv fun o e=>k i1 (by simp) o e,q5.mv fun o e=>k i2 (by simp) o e⟩
 item:=by
  intro X hP hw hK hc i U s Z H E I hf st hg;subst hP hw hK;obtain⟨q1,q2,⟨a,b',q3⟩,q4,q5⟩:=st;obtain⟨xs,ys,x,y,sx,sy,hx,hy⟩:=hg;obtain⟨ix,rx,cx,_⟩:=I.src sx;obtain⟨iy,ry,cy,_⟩:=I.src sy;obtain⟨u,hu,ru⟩:=rx.get hx;obtain⟨v,hv,rv⟩:=ry.get hy;have far:∀ {k:Bool} {l:Addr} {xs:List V},SqV k X.K H l xs->LFar z TO i1 i2 l:=fun h=>⟨jgj I h (hf z (by simp)),jgj I h (hf TO (by simp)),jgj I h (hf i1 (by simp)),jgj I h (hf i2 (by simp))⟩
  refine jwp D (far sx) (far sy) q1 q2 q3 q4 q5 cx cy (x:=u) (y:=v) (by simpa using hu) (by simpa using hv) fun h' b1 b2 b3 b4 b5 b6=>⟨_,rfl,?_⟩
  have keep:∀ b o,b∉[z,TI,TO,i1,i2]->s.heap.get? b=some o->h'.get? b=some o:=fun b o hb e=>by
   simp only[List.mem_cons,List.not_mem_nil,or_false,not_or] at hb;exact b6 b o hb.1 hb.2.2.1 hb.2.2.2.1 hb.2.2.2.2 e
  have e2:IsPair h' TI (.ref i1) (.ref i2):=b6 TI _ D.a1 D.a5 D.a6 D.a7 q2;have hfr:H s.heap.objs.size=none:=I.hok.fresh (zac _);have hno:s.heap.get? s.heap.objs.size=none:=Heap.get?_none_of_le (zac _);have Tz:s.heap.objs.size≠z:=Nat.ne_of_gt (zbw q1);refine wpAny_letOwnedTupleGo_zip b1 fun h2 z2 s2=>?_
  have up2:∀ b o,b≠z->h'.get? b=some o->h2.get? b=some o:=fun b o hb e=>s2.extBut _ _ hb e
  have keep2:∀ b o,b∉[z,TI,TO,i1,i2]->s.heap.get? b=some o->h2.get? b=some o:=fun b o hb e=>up2 b o (fun q=>hb (by simp[q])) (keep b o hb e)
  have tu:IsTup h2 s.heap.objs.size [u,v].toArray:=⟨_,up2 _ _ Tz b5,rfl,0,rfl⟩
  have I2:Inv X U Z (upd H s.heap.objs.size (.tup [x,y])) { s with heap:=h2 }:=I.spun (t':=s.toks) hf keep2 (fun b hb=>by
   simp only[List.mem_cons,List.not_mem_nil,or_false] at hb;rcases hb with rfl|rfl|rfl|rfl|rfl
   ·exact⟨_,z2⟩
   ·exact⟨_,up2 _ _ D.a1 e2⟩
   ·exact⟨_,up2 _ _ D.a2 b2⟩
   ·obtain⟨o,vs,e,_⟩:=b3.ob;exact⟨o,up2 _ _ D.a3 e⟩
   ·obtain⟨o,vs,e,_⟩:=b4.ob;exact⟨o,up2 _ _ D.a4 e⟩) hno hfr (.cons ru (.cons rv .nil)) (by show 2<=sizeLine;decide) tu
  refine⟨.ref s.heap.objs.size,_,I2,rfl,⟨_,x,y,hfr,rfl,rfl,fun xs' h=>by rw[I.src_inj h sx];exact hx,fun ys' h=>by rw[I.src_inj h sy];exact hy⟩,?_,fun b hb=>?_⟩
  ·exact⟨z2,up2 _ _ D.a1 e2,⟨_,_,up2 _ _ D.a2 b2⟩,b3.mv fun o e=>up2 _ o D.a3 e,b4.mv fun o e=>up2 _ o D.a4 e⟩
  ·have:b≠s.heap.objs.size:=fun q=>by
    subst q;simp only[List.mem_cons,List.not_mem_nil,or_false] at hb;rcases hb with q|q|q|q|q
    ·exact Tz q
    ·exact absurd (zbw q2) (by rw[q];exact Nat.lt_irrefl _)
    ·exact absurd (zbw q3) (by rw[q];exact Nat.lt_irrefl _)
    ·obtain⟨o,vs,e,_⟩:=q4.ob;exact absurd (zbw e) (by rw[q];exact Nat.lt_irrefl _)
    ·obtain⟨o,vs,e,_⟩:=q5.ob;exact absurd (zbw e) (by rw[q];exact Nat.lt_irrefl _)
   rw[jar this];exact (hf b hb).1
 done:=by
  intro X hP hw hK hc i U s Z H E I hf st hg;subst hP hw hK;obtain⟨q1,q2,⟨a,b',q3⟩,q4,q5⟩:=st;obtain⟨xs,ys,sx,sy,hend⟩:=hg;obtain⟨ix,rx,cx,_⟩:=I.src sx;obtain⟨iy,ry,cy,_⟩:=I.src sy;have far:∀ {k:Bool} {l:Addr} {xs:List V},SqV k X.K H l xs->LFar z TO i1 i2 l:=fun h=>⟨jgj I h (hf z (by simp)),jgj I h (hf TO (by simp)),jgj I h (hf i1 (by simp)),jgj I h (hf i2 (by simp))⟩
  have lx:=rx.length;have ly:=ry.length;refine jn9 (I.ok.hd hc) D (far sx) (far sy) q1 q2 q3 q4 q5 cx cy ?_ fun h' k=>⟨rfl,I.spun0 (t':=s.toks) hf fun b o hb e=>?_⟩
  ·rcases hend with h|h
   ·exact .inl (by simp;omega)
   ·exact .inr (by simp;omega)
  ·simp only[List.mem_cons,List.not_mem_nil,or_false,not_or] at hb;exact k b o hb.1 hb.2.2.1 hb.2.2.2.1 hb.2.2.2.2 e
 self:=fun _ _ _ _ _ st h=>wpAny_pyIter_zip st.1 h
theorem zfar(n:Nat):ZFar (n+4) (n+2) (n+3) n (n+1):=⟨show (n+2:Nat)≠n+4 by omega,show (n+3:Nat)≠n+4 by omega,show (n:Nat)≠n+4 by omega,show (n+1:Nat)≠n+4 by omega,show (n+2:Nat)≠n+3 by omega,
 show (n+2:Nat)≠n by omega,show (n+2:Nat)≠n+1 by omega,show (n+3:Nat)≠n by omega,show (n+3:Nat)≠n+1 by omega,show (n:Nat)≠n+1 by omega⟩
section
variable {X:Cx}
def iZip(K:W.Frag)(ta:TA):TI:=fun Z H R=>ta Z H fun vs H1=>∃ k1 k2 l1 l2 xs ys,vs=[.ref l1,.ref l2]/\SqV k1 K H1 l1 xs/\SqV k2 K H1 l2 ys/\R (Itz k1 k2 K l1 l2) H1
theorem jDr{a b:Expr}{ta:TA}{es:List Expr}{kk:Nat}{tp p pos:Pos}(hg:Gl X "zip")(hm:X.mg "zip"=none)(ha:PA X [a,b] ta)(hs:autoParam (starEach [a,b] X.env=[(false,eval a X.env),(false,eval b X.env)]) zau2._auto_1)(hs2:autoParam (starEach [b] X.env=[(false,eval b X.env)]) zau2._auto_1) :
  PI X (.Tuple es kk tp) (.Call (.Name "zip" p) [a,b] [] pos) (iZip X.K ta):=by
 intro U s Z H R I h;refine Call_ (jjd I hg hm boot_zip (PyProof.Rows.callWith_type1 (thn (ha pos U s Z H _ I h) fun us s1 hzz=>?_) (by rw[hs,hs2]) (by rw[hs2];rfl)));obtain⟨vs,H1,I1,r1,q1⟩:=hzz;obtain⟨k1,k2,l1,l2,xs,ys,e,sx,sy,q⟩:=q1;subst e;obtain⟨u1,u2,rfl,e1,e2⟩:=r1.two;cases e1;cases e2;obtain⟨ix,rx,cx,_⟩:=I1.src sx;obtain⟨iy,ry,cy,_⟩:=I1.src sy;refine callType_new F.called_zip (by decide) (F.typeCall_zip_2 _ _) (F.newCall_zip_2 _ _) (fun obj=>F.args_object_init_3 obj _ _) F.entry_zip_new (jt8 l1 l2 ix.toArray iy.toArray) ⟨cx,cy,fun o1 o2 w1 w2=>?_⟩;have n1:(s1.heap.push o1).objs.size=s1.heap.objs.size+1:=Heap.size_push ..;have n2:(zA s1.heap o1 o2).objs.size=s1.heap.objs.size+2:=by show (Heap.push _ _).objs.size=_;rw[Heap.size_push,n1]
 have n3:(zB s1.heap o1 o2).objs.size=s1.heap.objs.size+3:=by show (Heap.push _ _).objs.size=_;rw[Heap.size_push,n2]
 have n4:(zC s1.heap o1 o2).objs.size=s1.heap.objs.size+4:=by show (Heap.push _ _).objs.size=_;rw[Heap.size_push,n3]
 have g5:(zD s1.heap o1 o2).get? (zC s1.heap o1 o2).objs.size=some _:=zbv _ rfl;have g4:(zD s1.heap o1 o2).get? (zB s1.heap o1 o2).objs.size=some _:=zaz _ (zbv _ rfl);have g3:(zD s1.heap o1 o2).get? (zA s1.heap o1 o2).objs.size=some _:=zaz _ (zaz _ (zbv _ rfl));have kk2:∀ c o,(zA s1.heap o1 o2).get? c=some o->(zD s1.heap o1 o2).get? c=some o:=fun c o e=>zaz _ (zaz _ (zaz _ e))
 have kk1:∀ c o,(s1.heap.push o1).get? c=some o->(zD s1.heap o1 o2).get? c=some o:=fun c o e=>kk2 c o (zaz _ e)
 have kk0:∀ c o,s1.heap.get? c=some o->(zD s1.heap o1 o2).get? c=some o:=fun c o e=>kk1 c o (zaz _ e)
 rw[n1] at w2 g3;rw[n2] at g3;rw[n3] at g4;rw[n4,n2,n3] at g5;show _/\_;rw[n4];refine⟨⟨_,g5,rfl⟩,wpAny_pyIter_zip g5 ?_⟩;have D:ZFar (s1.heap.objs.size+4) (s1.heap.objs.size+2) (s1.heap.objs.size+3) s1.heap.objs.size (s1.heap.objs.size+1):=zfar _;refine⟨s1.heap.objs.size+4,[s1.heap.objs.size+4,s1.heap.objs.size+2,s1.heap.objs.size+3,s1.heap.objs.size,s1.heap.objs.size+1],_,_,H1,rfl,I1.kept (t':=s1.toks) fun c o e=>kk0 c o e,
  jxf k1 k2 l1 l2 _ _ _ _ _ D,⟨g5,g3,⟨_,_,g4⟩,w1.mv fun o e=>kk1 _ o e,w2.mv fun o e=>kk2 _ o e⟩,fun b hb=>?_,q⟩
 have hb':s1.heap.objs.size<=b:=by
  simp only[List.mem_cons,List.not_mem_nil,or_false] at hb;show (s1.heap.objs.size:Nat)<=(b:Nat);have hb2:(b:Nat)=b:=rfl;rcases hb with q|q|q|q|q<;>(rw[q];first|exact zac _|exact Nat.le_add_right _ _)
 exact I1.fpOk hb' (I1.hok.fresh hb')
end
def Ite(K:W.Frag)(l:Addr):It :=
  ⟨fun i H=>∃ xs x,SqL K H l xs/\xs[i]? = some x,
   fun i H v H'=>∃ T x,H T=none/\v=.ref T/\H'=upd H T (.tup [.int i,x])/\(∀ xs,SqL K H l xs->xs[i]? = some x),
   fun i H=>∃ xs,SqL K H l xs/\xs.length<=i⟩
theorem jva{P:Program}{w:World}{K:W.Frag}{es:List Expr}{kk:Nat}{tp:Pos}(l e it:Addr)(D:e≠it) :
  Turn P w K (.Tuple es kk tp) (Ite K l) [e,it] e (fun i h=>(∃ old,IsEnum h e it i old)/\h.IsListIter it l i) where
 mem:=by simp
 obj:=fun i h st b hb=>by
  obtain⟨⟨old,q1⟩,o,q2,_,q3⟩:=st;simp only[List.mem_cons,List.not_mem_nil,or_false] at hb;rcases hb with rfl|rfl
  ·exact⟨_,q1,fun v e=>nomatch e⟩
  ·exact⟨o,q2,fun v z=>by rw[q3] at z;cases z⟩
 keep:=fun i h h' st k=>by
  obtain⟨⟨old,q1⟩,q2⟩:=st;exact⟨⟨old,k e (by simp) _ q1⟩,q2.at fun o z=>k it (by simp) o z⟩
 item:=by
  intro X hP hw hK hc i U s Z H E I hf st hg;subst hP hw hK;obtain⟨⟨old,q1⟩,q2⟩:=st;obtain⟨xs,x,sx,hx⟩:=hg;obtain⟨ix,rx,cx,_⟩:=I.list sx;obtain⟨u,hu,ru⟩:=rx.get hx;refine wpAny_pyNext_enum_item q1 q2 cx.isList (x:=u) (by simpa using hu) D fun h' b1 b2 b3 b4 b5=>⟨_,rfl,?_⟩
  have hfr:H s.heap.objs.size=none:=I.hok.fresh (zac _);have hno:s.heap.get? s.heap.objs.size=none:=Heap.get?_none_of_le (zac _);have Te:s.heap.objs.size≠e:=Nat.ne_of_gt (zbw q1);have Ti:s.heap.objs.size≠it:=by obtain⟨o,q,_⟩:=q2;exact Nat.ne_of_gt (zbw q)
  refine wpAny_letOwnedTupleGo_enum b1 fun h2 e2 s2=>?_
  have up2:∀ b o,b≠e->h'.get? b=some o->h2.get? b=some o:=fun b o hb z=>s2.extBut _ _ hb z
  have keep2:∀ b o,b∉[e,it]->s.heap.get? b=some o->h2.get? b=some o:=fun b o hb z=>by
   simp only[List.mem_cons,List.not_mem_nil,or_false,not_or] at hb;exact up2 b o hb.1 (b5 b o hb.1 hb.2 z)
  have tu:IsTup h2 s.heap.objs.size [.int i s.toks,u].toArray:=⟨_,up2 _ _ Te b3,rfl,0,rfl⟩
  have i2:h2.IsListIter it l (i+1):=b2.at fun o z=>up2 _ o D.symm z
  have I2:Inv X U Z (upd H s.heap.objs.size (.tup [.int i,x])) { s with heap:=h2,toks:=s.toks+1 }:=I.spun hf keep2 (fun b hb=>by
   simp only[List.mem_cons,List.not_mem_nil,or_false] at hb;rcases hb with rfl|rfl
   ·exact⟨_,e2⟩
   ·obtain⟨o,q,_⟩:=i2;exact⟨o,q⟩) hno hfr (.cons ⟨_,rfl⟩ (.cons ru .nil)) (by show 2<=sizeLine;decide) tu
  refine⟨.ref s.heap.objs.size,_,I2,rfl,⟨_,x,hfr,rfl,rfl,fun xs' h=>by rw[I.list_inj h sx];exact hx⟩,⟨⟨u,by have:=e2;simpa using this⟩,i2⟩,fun b hb=>?_⟩;have:b≠s.heap.objs.size:=fun q=>by
   subst q;simp only[List.mem_cons,List.not_mem_nil,or_false] at hb;rcases hb with q|q
   ·exact Te q
   ·exact Ti q
  rw[jar this];exact (hf b hb).1
 done:=by
  intro X hP hw hK hc i U s Z H E I hf st hg;subst hP hw hK;obtain⟨⟨old,q1⟩,q2⟩:=st;obtain⟨xs,sx,hend⟩:=hg;obtain⟨ix,rx,cx,_⟩:=I.list sx;have lx:=rx.length;refine wpAny_pyNext_enum_end (I.ok.hd hc) q1 q2 cx.isList (by simp;omega) fun h' k=>⟨rfl,I.spun0 (t':=s.toks) hf fun b o hb z=>?_⟩
  simp only[List.mem_cons,List.not_mem_nil,or_false,not_or] at hb;exact k b o hb.2 z
 self:=fun _ _ _ _ _ st h=>by obtain⟨⟨old,q1⟩,_⟩:=st;exact wpAny_pyIter_enum q1 h
section
variable {X:Cx}
def jFu(K:W.Frag)(ta:TA):TI:=fun Z H R=>ta Z H fun vs H1=>∃ l xs,vs=[.ref l]/\SqL K H1 l xs/\R (Ite K l) H1
theorem jz7{a:Expr}{ta:TA}{es:List Expr}{kk:Nat}{tp p pos:Pos}(hg:Gl X "enumerate")(hm:X.mg "enumerate"=none)(ha:PA X [a] ta)(hs:autoParam (starEach [a] X.env=[(false,eval a X.env)]) zau2._auto_1) :
  PI X (.Tuple es kk tp) (.Call (.Name "enumerate" p) [a] [] pos) (jFu X.K ta):=by
 intro U s Z H R I h;refine Call_ (jjd I hg hm boot_enumerate (PyProof.Rows.callWith_type1 (thn (ha pos U s Z H _ I h) fun us s1 hzz=>?_) hs rfl));obtain⟨vs,H1,I1,r1,q1⟩:=hzz;obtain⟨l,xs,e,sx,q⟩:=q1;subst e;obtain⟨u,rfl,e1⟩:=r1.one;cases e1;obtain⟨ix,rx,cx,_⟩:=I1.list sx;refine call_enumerate_list cx.isList fun h' b1 b2 b3 b4=>wpAny_pyIter_enum b1 ?_
 refine⟨s1.heap.objs.size+1,[s1.heap.objs.size+1,s1.heap.objs.size],_,_,H1,rfl,I1.kept (t':=s1.toks) fun c o e=>b4 c o e,jva l _ _ (show (s1.heap.objs.size+1:Nat)≠s1.heap.objs.size by omega),⟨⟨_,b1⟩,b2⟩,fun b hb=>?_,q⟩;have hb':s1.heap.objs.size<=b:=by
  simp only[List.mem_cons,List.not_mem_nil,or_false] at hb;rcases hb with q|q<;>(rw[q];first|exact zac _|exact Nat.le_add_right _ _)
 exact I1.fpOk hb' (I1.hok.fresh hb')
end
def iSeq(K:W.Frag)(tl:TE):TI:=fun Z H R=>tl Z H fun x H1=>(∃ a,x=.ref a/\(∃ xs,SqL K H1 a xs)/\R (Itl K a) H1)\/(∃ a,x=.ref a/\(∃ xs,SqT K H1 a xs)/\R (Itt K a) H1)
theorem jDq{X:Cx}{tg l:Expr}{tl:TE}(hl:PE X l tl):PI X tg l (iSeq X.K tl):=by
 intro U s Z H R I h;refine thn (hl U s Z H _ I h) fun v s1 hzz=>?_
 obtain⟨x,H1,I1,r1,q1⟩:=hzz;have fp1:∀ b∈[s1.heap.objs.size],FpOk X U H1 b:=fun b hb=>by
  have e:b=s1.heap.objs.size:=by simpa using hb
  subst e;exact I1.fpOk (zac _) (I1.hok.fresh (zac _))
 rcases q1 with ⟨a,e,⟨xs,hq⟩,q⟩|⟨a,e,⟨xs,hq⟩,q⟩
 ·subst e;cases r1;obtain⟨its,rv,p,hz⟩:=I1.list hq;exact wpAny_pyIter_list p.isList ⟨s1.heap.objs.size,[s1.heap.objs.size],_,_,H1,rfl,I1.kept (t':=s1.toks) fun b o e=>zaz _ e,jvb a _,⟨_,zbv _ rfl,rfl,rfl⟩,fp1,q⟩
 ·subst e;cases r1;obtain⟨its,rv,p,hz⟩:=I1.tuple hq;exact wpAny_pyIter_tuple (show s1.heap.IsTuple a its.toArray from p) ⟨s1.heap.objs.size,[s1.heap.objs.size],_,_,H1,rfl,I1.kept (t':=s1.toks) fun b o e=>zaz _ e,jsf a _,⟨_,zbv _ rfl,rfl,rfl⟩,fp1,q⟩
noncomputable def Itv(val:Nat->V)(n:Nat):It:=⟨fun i _=>i<n,fun i H x H'=>H'=H/\x=val i,fun i _=>i=n⟩
noncomputable def joj(nm:String):Bool:=!["enumerate","zip","dict_itemiterator","dict_reverseitemiterator","odict_iterator","itertools.zip_longest","itertools.pairwise"].contains nm
theorem jip{P:Program}{w:World}{K:W.Frag}{tg:Expr}(it:Addr)(val:Nat->V)(n:Nat)(Stn:Nat->Heap->Prop)(W:∀ A:Around,A.handled=none->Walks P w A it [it] [it] n (fun i v=>RelV (val i) v) Stn)
  (ob:∀ i h,Stn i h->∃ o nm vs,h.get? it=some o/\o.cls=.type nm/\o.data=.fields vs/\joj nm=true)
  (sf:∀ (A:Around) (i:Nat) (s:Shared) (Q:qe) (E:qe),Stn i s.heap->Q (.ref it) s->wpAny (model P w) A (pyIter (.ref it)) Q E s):Turn P w K tg (Itv val n) [it] it Stn where
 mem:=by simp
 obj:=fun i h st b hb=>by
  have e:b=it:=by simpa using hb
  subst e;obtain⟨o,nm,vs,q1,_,q3,_⟩:=ob i h st;exact⟨o,q1,fun v z=>by rw[q3] at z;cases z⟩
 keep:=fun i h h' st k=>(W { handled:=none,frames:=some [] } rfl).frame i h h' st k
 item:=by
  intro X hP hw hK hc i U s Z H E I hf st hg;subst hP hw hK;refine (W X.A (I.ok.hd hc)).item i s _ _ hg st fun v h' tk hv st' kk=>⟨v,rfl,?_⟩
  obtain⟨o,nm,vs,q1,q2,q3,q4⟩:=ob _ _ st';have I1:Inv X U Z H { s with heap:=h',toks:=tk }:=I.spun0 hf kk;exact jy6 (s:={ s with heap:=h',toks:=tk }) q1 q2 q3 (by unfold joj at q4;simpa using q4) ⟨val i,H,I1,hv,⟨rfl,rfl⟩,st',fun b hb=>(hf b hb).1⟩
 done:=by
  intro X hP hw hK hc i U s Z H E I hf st hg;subst hP hw hK;have hg':i=n:=hg;subst hg';exact (W X.A (I.ok.hd hc)).done s _ _ st fun h' tk kk=>⟨rfl,I.spun0 hf kk⟩
 self:=fun A i s Q E st h=>sf A i s Q E st h
section
variable {X:Cx}{tg:Expr}
theorem jol{U:qd}{Z:St}{H:Hp}{s:Shared}{R:It->Hp->Prop}{E:qe}{lo hi st:Int}{t u v:Tok}{tk:Nat}(I:Inv X U Z H s)(hst:st=1)
  (q:R (Itv (fun i=>.int (lo+(i:Nat)*st)) (Builtin.Range.rangeSize lo hi st).toNat) H):wpAny (model X.prog X.w) X.A (pyIter (.ref s.heap.objs.size)) (PIE X U Z tg R) E { s with heap:=s.heap.push { cls:=.type "range",data:=.fields #[.int lo t,.int hi u,.int st v] },toks:=tk }:=by
 have I1:Inv X U Z H { s with heap:=s.heap.push { cls:=.type "range",data:=.fields #[.int lo t,.int hi u,.int st v] },toks:=tk }:=I.kept fun b o e=>zaz _ e
 subst hst;have hn:0<=Builtin.Range.rangeSize lo hi 1:=by rw[rangeSize_one];split<;>omega
 generalize hN:(Builtin.Range.rangeSize lo hi 1).toNat=N at q;have hN':Builtin.Range.rangeSize lo hi 1=(N:Int):=by omega
 have fpk:∀ b∈[(s.heap.push { cls:=.type "range",data:=.fields #[.int lo t,.int hi u,.int 1 v] }).objs.size],FpOk X U H b:=fun b hb=>by
  have e:b=(s.heap.push { cls:=.type "range",data:=.fields #[.int lo t,.int hi u,.int 1 v] }).objs.size:=by simpa using hb
  subst e;exact I1.fpOk (zac _) (I1.hok.fresh (zac _))
 by_cases hsm:Builtin.Range.small lo hi 1=true
 ·refine wpAny_pyIter_range (IsRange.new ..) hsm ?_;refine⟨_,[_],_,_,H,rfl,I1.kept (t':=tk) fun b o e=>zaz _ e,jip _ _ N _ (fun A hA=>Walks.range hA _ lo 1 N) (fun i h e=>⟨_,_,_,e,rfl,rfl,rfl⟩) (fun A i s Q E e h=>wpAny_pyIter_rangeiter e h),?_,fpk,q⟩;show IsRangeIter _ _ (lo+((0:Nat):Int)*1) ((N:Int)-((0:Nat):Int)) 1;rw[<- hN'];have e1:lo+((0:Nat):Int)*1=lo:=by simp
  have e2:Builtin.Range.rangeSize lo hi 1-((0:Nat):Int)=Builtin.Range.rangeSize lo hi 1:=by simp
  rw[e1,e2];exact zbv _ rfl
 ·refine wpAny_pyIter_longrange (IsRange.new ..) (by simpa using hsm) ?_;refine⟨_,[_],_,_,H,rfl,I1.kept (t':=tk) fun b o e=>zaz _ e,jip _ _ N _ (fun A hA=>Walks.longrange hA _ lo 1 N) (fun i h e=>⟨_,_,_,e,rfl,rfl,rfl⟩) (fun A i s Q E e h=>wpAny_pyIter_longiter e h),?_,fpk,q⟩;show IsLongIter _ _ (lo+((0:Nat):Int)*1) ((N:Int)-((0:Nat):Int)) 1;rw[<- hN'];have e1:lo+((0:Nat):Int)*1=lo:=by simp
  have e2:Builtin.Range.rangeSize lo hi 1-((0:Nat):Int)=Builtin.Range.rangeSize lo hi 1:=by simp
  rw[e1,e2];exact zbv _ rfl
def iRgA(ta:TA):TI:=fun Z H R=>ta Z H fun vs H1=>(∃ j:Int,vs=[.int j]/\R (Itv (fun i=>.int (0+(i:Nat)*1)) (Builtin.Range.rangeSize 0 j 1).toNat) H1) \/
 (∃ i j:Int,vs=[.int i,.int j]/\R (Itv (fun n=>.int (i+(n:Nat)*1)) (Builtin.Range.rangeSize i j 1).toNat) H1)
theorem jwz{a:Expr}{es:List Expr}{ta:TA}{p pos:Pos}(hg:Gl X "range")(hm:X.mg "range"=none)(ha:PA X (a::es) ta)(hs:autoParam (starEach (a::es) X.env=(false,eval a X.env)::starEach es X.env) zau2._auto_1)(hp:autoParam ((backTo pos (starEach es X.env)).any (·.1)=false) zau2._auto_1) :
  PI X tg (.Call (.Name "range" p) (a::es) [] pos) (iRgA ta):=by
 intro U s Z H R I h;refine Call_ (jjd I hg hm boot_range (PyProof.Rows.callWith_type1 (thn (ha pos U s Z H _ I h) fun us s1 hzz=>?_) hs hp));obtain⟨vs,H1,I1,r1,q1⟩:=hzz;rcases q1 with ⟨j,e,q⟩|⟨i,j,e,q⟩
 ·subst e;obtain⟨u,rfl,t,rfl⟩:=r1.one;exact call_range_1 (jol I1 rfl q)
 ·subst e;obtain⟨u,v,rfl,⟨t,rfl⟩,⟨t',rfl⟩⟩:=r1.two;exact call_range_2 (jol I1 rfl q)
end
end L2
namespace DL
open L2
noncomputable def seqD:D->Option (List D)
 | .lst ds=>some ds
 | .tup ds=>some ds
 | _=>none
def jcr(f:DSt->M D):DSt->M (List D):=fun Y=>(f Y).b fun d=>M.o (seqD d)
noncomputable def jap(lo:Int)(n:Nat):List D:=(List.range n).map fun i=>.int (lo+(i:Nat))
def ja9:List D->Option (List D)
 | [.int j]=>some (jap 0 j.toNat)
 | [.int i,.int j]=>some (jap i (j-i).toNat)
 | _=>none
noncomputable def zipD:List D->List D->List D
 | x::xs,y::ys=>.tup [x,y]::zipD xs ys
 | _,_=>[]
def jcb:List D->Option (List D)
 | [x,y]=>match seqD x,seqD y with
  | some xs,some ys=>some (zipD xs ys)
  | _,_=>none
 | _=>none
noncomputable def jdk:Int->List D->List D
 | _,[]=>[]
 | k,d::ds=>.tup [.int k,d]::jdk (k+1) ds
def jgo:List D->Option (List D)
 | [.lst xs]=>some (jdk 0 xs)
 | _=>none
def jca(k:List D->Option (List D))(f:DSt->M (List D)):DSt->M (List D):=fun Y=>(f Y).b fun ds=>M.o (k ds)
theorem jri:∀ {xs ys:List D} {i:Nat} {d:D},(zipD xs ys)[i]? = some d->∃ x y,xs[i]? = some x/\ys[i]? = some y/\d=.tup [x,y]
 | [],_,_,_,h=>by simp[zipD] at h
 | _::_,[],_,_,h=>by simp[zipD] at h
 | x::xs,y::ys,0,d,h=>by simp[zipD] at h;exact⟨x,y,rfl,rfl,h.symm⟩
 | x::xs,y::ys,i+1,d,h=>by
  obtain⟨a,b,q1,q2,q3⟩:=jri (xs:=xs) (ys:=ys) (i:=i) (d:=d) (by simpa[zipD] using h);exact⟨a,b,by simpa using q1,by simpa using q2,q3⟩
theorem jrj:∀ (xs ys:List D),(zipD xs ys).length=min xs.length ys.length
 | [],_=>by simp[zipD]
 | _::_,[]=>by simp[zipD]
 | x::xs,y::ys=>by simp[zipD,jrj xs ys]
theorem jh7:∀ {xs:List D} {k:Int} {i:Nat} {d:D},(jdk k xs)[i]? = some d->∃ x,xs[i]? = some x/\d=.tup [.int (k+i),x]
 | [],_,_,_,h=>by simp[jdk] at h
 | x::xs,k,0,d,h=>by simp[jdk] at h;exact⟨x,rfl,by rw[<- h];simp⟩
 | x::xs,k,i+1,d,h=>by
  obtain⟨a,q1,q2⟩:=jh7 (xs:=xs) (k:=k+1) (i:=i) (d:=d) (by simpa[jdk] using h);refine⟨a,by simpa using q1,?_⟩;have:k+1+(i:Int)=k+((i+1:Nat):Int):=by push_cast;omega
  rw[q2,this]
theorem jf8:∀ (xs:List D) (k:Int),(jdk k xs).length=xs.length
 | [],_=>rfl
 | _::xs,k=>by simp[jdk,jf8 xs]
section
variable {J:Rho}{X:Cx}{O:List Nat}{E:XK}{a b tg iter e elt:Expr}{es:List Expr}{fa:DSt->M D}{fl:DSt->M (List D)}{pos p:Pos}
theorem sqv_t{K:W.Frag}{H:Hp}{l:Addr}{xs:List V}:SqV true K H l xs↔SqT K H l xs:=Iff.rfl
theorem sqv_l{K:W.Frag}{H:Hp}{l:Addr}{xs:List V}:SqV false K H l xs↔SqL K H l xs:=Iff.rfl
theorem jl3{k:Bool}{K:W.Frag}{H H':Hp}{l:Addr}{xs:List V}(e:Same H H')(h:SqV k K H l xs):SqV k K H' l xs:=by
 cases k with
 | true=>exact jdl (H:=H) e h
 | false=>exact jdi (H:=H) e h
theorem jB9{J:Rho}{K:W.Frag}{ds:List D}{Hv:Hp}{l:Addr}{xs:List V}(h:SqL K Hv l xs)(hr:Reps J K Hv ds xs):ItD J K (Itl K l) ds Hv:=by
 intro H' G' i f hG;have h':SqL K H' l xs:=jdi (f.trans jao) h;refine⟨fun hi=>?_,fun hi=>⟨xs,h',by rw[hr.length,hi];exact zac _⟩⟩;obtain⟨v,hv,rv⟩:=hr.get (zax hi);refine⟨⟨xs,v,h',hv⟩,fun x H2 y=>?_⟩;obtain⟨rfl,y⟩:=y;refine⟨Same.refl _,_,zax hi,?_⟩;have:=y xs h';rw[hv] at this;cases this
 exact rv.mono f
theorem jCa{J:Rho}{K:W.Frag}{ds:List D}{Hv:Hp}{l:Addr}{xs:List V}(h:SqT K Hv l xs)(hr:Reps J K Hv ds xs):ItD J K (Itt K l) ds Hv:=by
 intro H' G' i f hG;have h':SqT K H' l xs:=jdl (f.trans jao) h;refine⟨fun hi=>?_,fun hi=>⟨xs,h',by rw[hr.length,hi];exact zac _⟩⟩;obtain⟨v,hv,rv⟩:=hr.get (zax hi);refine⟨⟨xs,v,h',hv⟩,fun x H2 y=>?_⟩;obtain⟨rfl,y⟩:=y;refine⟨Same.refl _,_,zax hi,?_⟩;have:=y xs h';rw[hv] at this;cases this
 exact rv.mono f
theorem jtq{J:Rho}{K:W.Frag}{Hv:Hp}{val:Nat->V}{ds:List D}{n:Nat}(hl:ds.length=n)(hv:∀ i d,ds[i]? = some d->∀ H,Rep J K H d (val i)):ItD J K (Itv val n) ds Hv:=by
 intro H' G' i f hG;subst hl;refine⟨fun hi=>⟨hi,fun x H2 y=>?_⟩,fun hi=>hi⟩;obtain⟨rfl,rfl⟩:=y;exact⟨Same.refl _,_,zax hi,hv i _ (zax hi) _⟩
theorem jCb{J:Rho}{K:W.Frag}{k1 k2:Bool}{ds es:List D}{Hv:Hp}{l1 l2:Addr}{xs ys:List V}(h1:SqV k1 K Hv l1 xs)(r1:Reps J K Hv ds xs)(h2:SqV k2 K Hv l2 ys)(r2:Reps J K Hv es ys):ItD J K (Itz k1 k2 K l1 l2) (zipD ds es) Hv:=by
 intro H' G' i f hG;have h1':SqV k1 K H' l1 xs:=jl3 (f.trans jao) h1;have h2':SqV k2 K H' l2 ys:=jl3 (f.trans jao) h2;refine⟨fun hi=>?_,fun hi=>⟨xs,ys,h1',h2',?_⟩⟩
 ·obtain⟨d1,d2,q1,q2,q3⟩:=jri (zax hi);obtain⟨v,hv,rv⟩:=r1.get q1;obtain⟨u,hu,ru⟩:=r2.get q2;refine⟨⟨xs,ys,v,u,h1',h2',hv,hu⟩,fun x H2 y=>?_⟩;obtain⟨T,x1,x2,hT,rfl,rfl,y1,y2⟩:=y;have e1:=y1 xs h1';have e2:=y2 ys h2';rw[hv] at e1;cases e1
  rw[hu] at e2;cases e2
  refine⟨jax hT,_,zax hi,?_⟩;rw[q3];exact jb4 hT (hG T hT) (Reps.cons (rv.mono f) (Reps.cons (ru.mono f) Reps.nil))
 ·rw[jrj] at hi;rw[r1.length,r2.length];omega
theorem jB8{J:Rho}{K:W.Frag}{ds:List D}{Hv:Hp}{l:Addr}{xs:List V}(h:SqL K Hv l xs)(hr:Reps J K Hv ds xs):ItD J K (Ite K l) (jdk 0 ds) Hv:=by
 intro H' G' i f hG;have h':SqL K H' l xs:=jdi (f.trans jao) h;refine⟨fun hi=>?_,fun hi=>⟨xs,h',by rw[hr.length,hi,jf8];exact zac _⟩⟩;obtain⟨d,q1,q2⟩:=jh7 (zax hi);obtain⟨v,hv,rv⟩:=hr.get q1;refine⟨⟨xs,v,h',hv⟩,fun x H2 y=>?_⟩;obtain⟨T,x1,hT,rfl,rfl,y1⟩:=y;have e1:=y1 xs h';rw[hv] at e1;cases e1
 refine⟨jax hT,_,zax hi,?_⟩;rw[q2,Int.zero_add];exact jb4 hT (hG T hT) (Reps.cons (rep_int.mpr rfl) (Reps.cons (rv.mono f) Reps.nil))
theorem jbv(h:DE X O E iter fa):DI X O E tg iter (jcr fa):=by
 rintro U s Z H R I ⟨J,Hz,F,Y,r,RS0,hf,k⟩;refine jDq h U s Z H R I ?_;rcases M.b_inv hf with ⟨d,e1,hf⟩|⟨y,e1,rfl⟩
 ·refine⟨J,Hz,F,Y,.ok d,RS0,e1,fun v H1 s1 r1=>?_⟩;obtain⟨ds,hd,rfl⟩:=M.o_inv hf
  cases d with
  | lst es =>
   cases hd;obtain⟨q,xs,rfl,q2,q3⟩:=rep_lst.mp r1;exact .inl ⟨q,rfl,⟨xs,jdi jao q2⟩,k _ H1 s1 (jB9 q2 q3)⟩
  | tup es =>
   cases hd;obtain⟨q,xs,rfl,q2,q3⟩:=rep_tup.mp r1;exact .inr ⟨q,rfl,⟨xs,jdl jao q2⟩,k _ H1 s1 (jCa q2 q3)⟩
  | _=>cases hd
 ·exact⟨J,Hz,F,Y,.error y,RS0,e1,k⟩
theorem range_len(lo hi:Int):(Builtin.Range.rangeSize lo hi 1).toNat=(hi-lo).toNat:=by
 rw[rangeSize_one];split<;>omega
theorem jci(hg:Gl X "range")(hm:X.mg "range"=none)(ha:DA X O E (a::es) fl)(hs:autoParam (starEach (a::es) X.env=(false,eval a X.env)::starEach es X.env) zau2._auto_1)(hp:autoParam ((backTo pos (starEach es X.env)).any (·.1)=false) zau2._auto_1) :
  DI X O E tg (.Call (.Name "range" p) (a::es) [] pos) (jca ja9 fl):=by
 rintro U s Z H R I ⟨J,Hz,F,Y,r,RS0,hf,k⟩;refine jwz hg hm ha hs hp U s Z H R I ?_;rcases M.b_inv hf with ⟨d,e1,hf⟩|⟨y,e1,rfl⟩
 ·refine⟨J,Hz,F,Y,.ok d,RS0,e1,fun vs H1 s1 r1=>?_⟩;obtain⟨ds,hd,rfl⟩:=M.o_inv hf;unfold ja9 at hd
  split at hd
  ·rename_i j;cases hd;obtain⟨v,r',rfl,q1,q2⟩:=reps_cons.mp r1;cases reps_nil.mp q2;cases rep_int.mp q1;refine .inl ⟨j,rfl,k _ H1 s1 ?_⟩;refine jtq (by unfold jap;rw[range_len];simp) fun i d hd H=>?_
   unfold jap at hd;rw[zbb] at hd
   cases q:(List.range j.toNat)[i]? with
   | none=>rw[q] at hd;cases hd
   | some m =>
    rw[q] at hd;have:m=i:=by
     have:=(zbc.mp q).2;simpa using this.symm
    subst this;cases hd;exact rep_int.mpr (by rw[Int.mul_one])
  ·rename_i i0 j;cases hd;obtain⟨v,r',rfl,q1,q2⟩:=reps_cons.mp r1;obtain⟨v2,r2,rfl,q3,q4⟩:=reps_cons.mp q2;cases reps_nil.mp q4;cases rep_int.mp q1;cases rep_int.mp q3;refine .inr ⟨i0,j,rfl,k _ H1 s1 ?_⟩;refine jtq (by unfold jap;rw[range_len];simp) fun i d hd H=>?_
   unfold jap at hd;rw[zbb] at hd
   cases q:(List.range (j-i0).toNat)[i]? with
   | none=>rw[q] at hd;cases hd
   | some m =>
    rw[q] at hd;have:m=i:=by
     have:=(zbc.mp q).2;simpa using this.symm
    subst this;cases hd;exact rep_int.mpr (by rw[Int.mul_one])
  ·cases hd
 ·exact⟨J,Hz,F,Y,.error y,RS0,e1,k⟩
theorem jq8{J:Rho}{K:W.Frag}{H:Hp}{d:D}{ds:List D}{v:V}(hd:seqD d=some ds)(h:Rep J K H d v):∃ k l xs,v=.ref l/\SqV k K H l xs/\Reps J K H ds xs:=by
 cases d with
 | lst es=>cases hd;obtain⟨q,xs,rfl,q2,q3⟩:=rep_lst.mp h;exact⟨false,q,xs,rfl,q2,q3⟩
 | tup es=>cases hd;obtain⟨q,xs,rfl,q2,q3⟩:=rep_tup.mp h;exact⟨true,q,xs,rfl,q2,q3⟩
 | _=>cases hd
theorem jja{ts:List Expr}{kk:Nat}{tp:Pos}(hg:Gl X "zip")(hm:X.mg "zip"=none)(ha:DA X O E [a,b] fl)(hs:autoParam (starEach [a,b] X.env=[(false,eval a X.env),(false,eval b X.env)]) zau2._auto_1)(hs2:autoParam (starEach [b] X.env=[(false,eval b X.env)]) zau2._auto_1) :
  DI X O E (.Tuple ts kk tp) (.Call (.Name "zip" p) [a,b] [] pos) (jca jcb fl):=by
 rintro U s Z H R I ⟨J,Hz,F,Y,r,RS0,hf,k⟩;refine jDr hg hm ha hs hs2 U s Z H R I ?_;rcases M.b_inv hf with ⟨d,e1,hf⟩|⟨y,e1,rfl⟩
 ·refine⟨J,Hz,F,Y,.ok d,RS0,e1,fun vs H1 s1 r1=>?_⟩;obtain⟨ds,hd,rfl⟩:=M.o_inv hf;unfold jcb at hd
  split at hd
  ·rename_i x y
   split at hd
   ·rename_i xs ys ex ey;cases hd;obtain⟨v,r',rfl,q1,q2⟩:=reps_cons.mp r1;obtain⟨v2,r2,rfl,q3,q4⟩:=reps_cons.mp q2;cases reps_nil.mp q4;obtain⟨k1,l1,us,rfl,z1,z2⟩:=jq8 ex q1;obtain⟨k2,l2,ws,rfl,z3,z4⟩:=jq8 ey q3;exact⟨k1,k2,l1,l2,us,ws,rfl,jl3 jao z1,jl3 jao z3,k _ H1 s1 (jCb z1 z2 z3 z4)⟩
   ·cases hd
  ·cases hd
 ·exact⟨J,Hz,F,Y,.error y,RS0,e1,k⟩
theorem js4{ts:List Expr}{kk:Nat}{tp:Pos}(hg:Gl X "enumerate")(hm:X.mg "enumerate"=none)(ha:DA X O E [a] fl)(hs:autoParam (starEach [a] X.env=[(false,eval a X.env)]) zau2._auto_1) :
  DI X O E (.Tuple ts kk tp) (.Call (.Name "enumerate" p) [a] [] pos) (jca jgo fl):=by
 rintro U s Z H R I ⟨J,Hz,F,Y,r,RS0,hf,k⟩;refine jz7 hg hm ha hs U s Z H R I ?_;rcases M.b_inv hf with ⟨d,e1,hf⟩|⟨y,e1,rfl⟩
 ·refine⟨J,Hz,F,Y,.ok d,RS0,e1,fun vs H1 s1 r1=>?_⟩;obtain⟨ds,hd,rfl⟩:=M.o_inv hf;unfold jgo at hd
  split at hd
  ·rename_i xs;cases hd;obtain⟨v,r',rfl,q1,q2⟩:=reps_cons.mp r1;cases reps_nil.mp q2;obtain⟨l,us,rfl,z1,z2⟩:=rep_lst.mp q1;exact⟨l,us,rfl,jdi jao z1,k _ H1 s1 (jB8 z1 z2)⟩
  ·cases hd
 ·exact⟨J,Hz,F,Y,.error y,RS0,e1,k⟩
noncomputable def jb0(h:D->DSt->Option DSt)(tc:DSt->M Bool)(fe:DSt->M D):List D->DSt->Option (List D)
 | [],_=>some []
 | d::ds,Y=>match h d Y with
  | none=>none
  | some Y1=>match tc Y1 with
   | some (.ok true)=>(match fe Y1 with
    | some (.ok y)=>(jb0 h tc fe ds Y1).map (y::·)
    | _=>none)
   | some (.ok false)=>jb0 h tc fe ds Y1
   | _=>none
noncomputable def jcf(own:Nat)(caps:qh)(Y:DSt):DSt:=List.replicate own none++caps.map fun p=>(Y[p.2]?).join
def jce(own:Nat)(caps:qh)(fi:DSt->M (List D))(h:D->DSt->Option DSt)(tc:DSt->M Bool)(fe:DSt->M D):DSt->M D:=fun Y=>(fi Y).b fun ds=>M.o ((jb0 h tc fe ds (jcf own caps Y)).bind jbi)
def tYes:DSt->M Bool:=fun _=>M.p true
def DC(X:Cx)(O:List Nat)(E:XK)(ifs:List Expr)(f:DSt->M Bool):Prop:=PC0 X ifs (tB X.K O E f)
theorem jb8:DC X O E [] tYes:=by
 rintro U s Z H Q I ⟨J,Hz,F,Y,r,R,hf,h⟩;cases hf;exact jz0 U s Z H Q I (h H (Same.refl H))
theorem ji6{f:DSt->M Bool}(h:DT X O E a f):DC X O E [a] f:=jDf h
theorem jgv{own:Nat}{caps:qh}{Y:DSt}{i:Nat}{d:D}(h:(jcf own caps Y)[i]? = some (some d)):∃ p,caps[i-own]? = some p/\own<=i/\Y[p.2]? = some (some d):=by
 unfold jcf at h
 by_cases hi:i<own
 ·rw[List.getElem?_append_left (by simpa using hi),List.getElem?_replicate,if_pos hi] at h;cases h
 ·rw[List.getElem?_append_right (by simpa using hi),List.length_replicate,zbb] at h
  cases e:caps[i-own]? with
  | none=>rw[e] at h;cases h
  | some p =>
   rw[e] at h;exact⟨p,rfl,by omega,join_some (zbz h)⟩
theorem jic{own:Nat}{caps:qh}{Z:St}{i:Nat}{p:Str×Nat}{v:V}(h:caps[i-own]? = some p)(hi:own<=i)(hv:Z[p.2]? = some (some v)):(jbq own caps Z)[i]? = some (some v):=by
 unfold jbq;rw[List.getElem?_append_right (by simpa using hi),List.length_replicate,zbb,h];show some ((Z[p.2]?).join)=_;rw[hv];rfl
noncomputable def jgn(O:List Nat)(caps:qh):Bool:=caps.all fun p=>!O.contains p.2
inductive CInv(J:Rho)(K:W.Frag)(H1:Hp)(F:qf)(Dd:Addr)(tot:List D)(cd:DSt->Option (List D))(Z:St)(H:Hp):Prop
 | mk (Y:DSt) (done:List D) (zs:List V) (rest:List D) (hR:RS J K H1 H F [] Z Y) (hD:H Dd=some (.lst zs)) (hz:Reps J K (hid H F) done zs) (hr:cd Y=some rest) (ht:done++rest=tot)
theorem jb9{ifs:List Expr}{scope:Scope}{own:List Str}{caps:qh}{fi:DSt->M (List D)}{h:D->DSt->Option DSt}{tc:DSt->M Bool}{fe:DSt->M D}(hc:X.calm=true)(ck:CapsOk X scope caps)(hi:DI X O E tg iter fi)
  (hg:∀ C s0 H0 ex,DG (jbd X scope (own++caps.map (·.1)) C s0 H0 ex) [] tg h) (ht:∀ C s0 H0 ex,DC (jbd X scope (own++caps.map (·.1)) C s0 H0 ex) [] E0 ifs tc)
  (he:∀ C s0 H0 ex,DE (jbd X scope (own++caps.map (·.1)) C s0 H0 ex) [] E0 elt fe) (hcf:autoParam (jgn O caps=true) zau2._auto_1) (hs:autoParam (∀ x,foldedSetIterable iter X.env x=pure x) zau3._auto_1) :
  DE X O E (.ListComp elt [⟨tg,iter,ifs,0⟩] scope pos) (jce own.length caps fi h tc fe):=by
 rintro U s Z H Q I ⟨J,Hz,F,Y,r,R,hf,k⟩;refine jz4 (own:=own) (g:=tG X.K [] h) (tc:=tB X.K [] E0 tc) (te:=tD X.K [] E0 fe) hc ck hi hg ht he hs U s Z H Q I ?_;rcases M.b_inv hf with ⟨ds,e1,hf⟩|⟨y,e1,rfl⟩
 ·refine⟨J,Hz,F,Y,.ok ds,R,e1,fun Jq H1 s1 it Dd hD=>?_⟩;obtain⟨dd,hd,rfl⟩:=M.o_inv hf
  cases hcd:jb0 h tc fe ds (jcf own.length caps Y) with
  | none=>rw[hcd] at hd;cases hd
  | some tot =>
   rw[hcd] at hd;have hd':jbi tot=some dd:=hd;unfold jbi at hd'
   split at hd'
   ·rename_i hz;cases hd';have R1:=R.mono s1;have pf:=R1.fresh hD
    let F':qf:=fun b=>fob F Z O b || b == Dd
    have F't:∀ b,F' b=true↔fob F Z O b=true\/b=Dd:=fun b=>by show (_ || _)=true↔_;rw[Bool.or_eq_true,beq_iff_eq]
    have vis:∀ {H2:Hp},Same H1 H2->Same (hid H1 (fob F Z O)) (hid H2 F'):=fun {H2} e b o q=>by
     obtain⟨q1,q2⟩:=hid_some.mp q;refine hid_some.mpr ⟨?_,e b o q2⟩
     cases z:F' b with
     | false=>rfl
     | true =>
      rcases (F't b).mp z with z|z
      ·rw[q1] at z;cases z
      ·rw[z,hD] at q2;cases q2
    have R0:RS J X.K H1 (upd H1 Dd (.lst [])) F' [] (jbq own.length caps Z) (jcf own.length caps Y):=by
     refine⟨by simp[jbq,jcf],jax hD,fun b hb=>?_,fun i d hd _=>?_,fun i hi=>absurd hi (by simp),fun i hi=>absurd hi (by simp)⟩
     ·rcases (F't b).mp hb with z|z
      ·refine jfu fun q=>?_
       rw[R1.fresh q] at z;cases z
      ·rw[z,jaq];exact fun q=>nomatch q
     ·obtain⟨p,p1,p2,p3⟩:=jgv hd;have hO:p.2∉O:=fun z=>by
       have:=List.all_eq_true.mp hcf p (zdv p1);rw[zcx.mpr z] at this;cases this
      obtain⟨v,q1,q2⟩:=R1.val p.2 d p3 hO;exact⟨v,jic p1 p2 q1,by rw[ja8];exact q2.mono (vis (jax hD))⟩
    refine⟨fun i m Z' H'=>m=ds.length-i/\i<=ds.length/\CInv J X.K H1 F' Dd tot (jb0 h tc fe (ds.drop i)) Z' H',
     ⟨ds.length,by simp,Nat.zero_le _,_,[],[],tot,R0,jaq,Reps.nil,hcd,rfl⟩,?_⟩
    rintro i m Z' H' ⟨rfl,hil,Y',done,zs,rest,R',hDd,rz,hr,htot⟩;have fv:Same (hid H1 (fob F Z O)) (hid H' (fob F' Z' [])):=by rw[ja8];exact vis R'.same
    obtain⟨j1,j2⟩:=it H' (fob F' Z' []) i fv fun p hp=>R'.fresh hp
    by_cases hlt:i<ds.length
    ·obtain⟨go,yld⟩:=j1 hlt;refine .inr ⟨go,CInv J X.K H1 F' Dd tot (jb0 h tc fe (ds.drop (i+1))),
      fun Z2 H2 q=>⟨ds.length-(i+1),by omega,rfl,hlt,q⟩,fun x H2 y=>?_⟩
     obtain⟨s2,d,hd,rd⟩:=yld x H2 y;have hdr:ds.drop i=d::ds.drop (i+1):=by
      rw[List.drop_eq_getElem_cons hlt];have:ds[i]=d:=by rw[zax hlt] at hd;exact zbz hd
      rw[this]
     rw[hdr] at hr;unfold jb0 at hr
     cases e2:h d Y' with
     | none=>rw[e2] at hr;cases hr
     | some Y1 =>
      rw[e2] at hr;dsimp only at hr;refine⟨J,H1,F',Y',d,Y1,R'.mono s2,rd,e2,fun Z3 ef R3=>?_⟩;have keepD:∀ {H5:Hp},Same H2 H5->H5 Dd=some (.lst zs)/\Reps J X.K (hid H5 F') done zs:=fun {H5} e=>⟨e _ _ (s2 _ _ hDd),rz.mono (jan (s2.trans e))⟩
      split at hr
      ·rename_i e3;refine⟨J,H1,F',Y1,.ok true,R3,e3,fun H4 s4=>iteT ?_⟩
       split at hr
       ·rename_i yv e4;refine⟨J,H1,F',Y1,.ok yv,R3.mono s4,e4,fun v H5 s5 r5=>?_⟩;rw[ja8] at r5;obtain⟨k1,k2⟩:=keepD (s4.trans s5)
        cases e5:jb0 h tc fe (ds.drop (i+1)) Y1 with
        | none=>rw[e5] at hr;cases hr
        | some rest' =>
         rw[e5] at hr;have hr':yv::rest'=rest:=zbz hr;have hFD:F' Dd=true:=(F't Dd).mpr (.inr rfl);have hh:hid (upd H5 Dd (.lst (zs++[v]))) F'=hid H5 F':=jc1 hFD;refine⟨zs,k1,?_,Y1,done++[yv],zs++[v],rest',?_,jaq,?_,e5,by rw[List.append_assoc,<- htot,<- hr'];rfl⟩
         ·have l1:=k2.length;have l2:=congrArg List.length htot;rw[zdb,<- hr',List.length_cons] at l2;omega
         ·have R5:=R3.mono (s4.trans s5);refine⟨R5.len,jgi R5.same hD,fun b hb=>jfu (R5.fin b hb),fun j d' hj hO=>?_,fun j hj=>absurd hj (by simp),fun j hj=>absurd hj (by simp)⟩;obtain⟨v',w1,w2⟩:=R5.val j d' hj hO;refine⟨v',w1,?_⟩;rw[ja8] at w2 |-
          rw[hh];exact w2
         ·rw[hh];exact k2.append (Reps.cons r5 Reps.nil)
       ·cases hr
      ·rename_i e3;refine⟨J,H1,F',Y1,.ok false,R3,e3,fun H4 s4=>iteF ?_⟩;obtain⟨k1,k2⟩:=keepD s4;exact⟨Y1,done,zs,rest,R3.mono s4,k1,k2,hr,htot⟩
      ·cases hr
    ·have ei:i=ds.length:=by omega
     subst ei;rw[List.drop_length] at hr;cases hr;rw[List.append_nil] at htot;subst htot;refine .inl ⟨j2 rfl,k _ H' (s1.trans R'.same) ?_⟩;exact rep_lst.mpr ⟨Dd,zs,rfl,SqL.of (hid_some.mpr ⟨pf,hDd⟩),rz.mono (jek fun b q=>(F't b).mpr (.inl q))⟩
   ·cases hd'
 ·exact⟨J,Hz,F,Y,.error y,R,e1,k⟩
end
mutual
noncomputable def okD:D->Bool
 | .ty _=>false
 | .obj _=>false
 | .tup ds=>okDs ds
 | .lst ds=>okDs ds
 | _=>true
noncomputable def okDs:List D->Bool
 | []=>true
 | d::ds=>okD d&&okDs ds
end
mutual
noncomputable def depD:D->Nat
 | .tup ds=>depDs ds+1
 | .lst ds=>depDs ds+1
 | _=>0
noncomputable def depDs:List D->Nat
 | []=>0
 | d::ds=>max (depD d) (depDs ds)
end
mutual
noncomputable def eqB:D->D->Bool
 | .non,.non=>true
 | .bl a,.bl b=>a == b
 | .bl a,.int b=>(if a then 1 else 0) == b
 | .int a,.bl b=>a == (if b then 1 else 0)
 | .int a,.int b=>a == b
 | .str a,.str b=>a == b
 | .tup a,.tup b=>eqBs a b
 | .lst a,.lst b=>eqBs a b
 | _,_=>false
noncomputable def eqBs:List D->List D->Bool
 | [],[]=>true
 | a::as,b::bs=>eqB a b&&eqBs as bs
 | _,_=>false
end
mutual
theorem jqm:∀ d:D,okD d=true->eqB d d=true
 | .non,_=>by unfold eqB;rfl
 | .bl _,_=>by unfold eqB;simp
 | .int _,_=>by unfold eqB;simp
 | .str _,_=>by unfold eqB;simp
 | .ty _,h=>by unfold okD at h;cases h
 | .obj _,h=>by unfold okD at h;cases h
 | .tup ds,h=>by unfold okD at h;unfold eqB;exact eqBs_refl ds h
 | .lst ds,h=>by unfold okD at h;unfold eqB;exact eqBs_refl ds h
theorem eqBs_refl:∀ ds:List D,okDs ds=true->eqBs ds ds=true
 | [],_=>by unfold eqBs;rfl
 | d::ds,h=>by
  unfold okDs at h;rw[Bool.and_eq_true] at h;unfold eqBs;rw[jqm d h.1,eqBs_refl ds h.2];rfl
end
theorem eqBs_len:∀ {as bs:List D},eqBs as bs=true->as.length=bs.length
 | [],[],_=>rfl
 | [],_::_,h=>by unfold eqBs at h;cases h
 | _::_,[],h=>by unfold eqBs at h;cases h
 | a::as,b::bs,h=>by
  unfold eqBs at h;rw[Bool.and_eq_true] at h;simp[eqBs_len h.2]
theorem jh8:∀ {as bs:List D},as.length=bs.length->∀ (k:Nat->Bool),(∀ j a b,as[j]? = some a->bs[j]? = some b->k j=eqB a b)->(List.range as.length).all k=eqBs as bs
 | [],[],_,k,_=>by unfold eqBs;rfl
 | [],_::_,h,_,_=>by simp at h
 | _::_,[],h,_,_=>by simp at h
 | a::as,b::bs,h,k,hk=>by
  unfold eqBs;rw[List.length_cons,List.range_succ_eq_map,List.all_cons,List.all_map,hk 0 a b rfl rfl];congr 1;exact jh8 (by simpa using h) (k ∘ Nat.succ) fun j x y e1 e2=>hk (j+1) x y (by simpa using e1) (by simpa using e2)
theorem jdq:∀ {ds:List D} {i:Nat} {d:D},okDs ds=true->ds[i]? = some d->okD d=true
 | [],_,_,_,e=>by simp at e
 | d::ds,0,x,h,e=>by unfold okDs at h;rw[Bool.and_eq_true] at h;simp at e;subst e;exact h.1
 | d::ds,i+1,x,h,e=>by unfold okDs at h;rw[Bool.and_eq_true] at h;exact jdq h.2 (by simpa using e)
theorem jf7:∀ {ds:List D} {i:Nat} {d:D},ds[i]? = some d->depD d<=depDs ds
 | [],_,_,e=>by simp at e
 | d::ds,0,x,e=>by simp at e;subst e;unfold depDs;omega
 | d::ds,i+1,x,e=>by have:=jf7 (ds:=ds) (i:=i) (d:=x) (by simpa using e);unfold depDs;omega
section
variable {J:Rho}{X:Cx}{U:qd}{Z:St}{H:Hp}{s:Shared}
theorem jCt{l:Addr}{xs ys:List V}(I:Inv X U Z H s)(h1:SqT X.K H l xs)(h2:SqL X.K H l ys):False:=by
 obtain⟨i1,_,p1,_⟩:=I.tuple h1;obtain⟨i2,_,p2,_⟩:=I.list h2;exact SeqAt.ne_of_list_tuple p2.isList p1 rfl
mutual
theorem juz(I:Inv X U Z H s):∀ {d e:D} {v:V},okD d=true->okD e=true->Rep J X.K H d v->Rep J X.K H e v->d=e
 | .non,e,v,_,oe,h,k=>by
  cases rep_non.mp h
  cases e with
  | non=>rfl
  | bl _=>exact nomatch rep_bl.mp k
  | int _=>exact nomatch rep_int.mp k
  | str _=>exact nomatch rep_str.mp k
  | ty _=>unfold okD at oe;cases oe
  | obj _=>unfold okD at oe;cases oe
  | tup _=>obtain⟨_,_,z,_⟩:=rep_tup.mp k;cases z
  | lst _=>obtain⟨_,_,z,_⟩:=rep_lst.mp k;cases z
 | .bl b,e,v,_,oe,h,k=>by
  cases rep_bl.mp h
  cases e with
  | non=>exact nomatch rep_non.mp k
  | bl _=>cases rep_bl.mp k;rfl
  | int _=>exact nomatch rep_int.mp k
  | str _=>exact nomatch rep_str.mp k
  | ty _=>unfold okD at oe;cases oe
  | obj _=>unfold okD at oe;cases oe
  | tup _=>obtain⟨_,_,z,_⟩:=rep_tup.mp k;cases z
  | lst _=>obtain⟨_,_,z,_⟩:=rep_lst.mp k;cases z
 | .int b,e,v,_,oe,h,k=>by
  cases rep_int.mp h
  cases e with
  | non=>exact nomatch rep_non.mp k
  | bl _=>exact nomatch rep_bl.mp k
  | int _=>cases rep_int.mp k;rfl
  | str _=>exact nomatch rep_str.mp k
  | ty _=>unfold okD at oe;cases oe
  | obj _=>unfold okD at oe;cases oe
  | tup _=>obtain⟨_,_,z,_⟩:=rep_tup.mp k;cases z
  | lst _=>obtain⟨_,_,z,_⟩:=rep_lst.mp k;cases z
 | .str b,e,v,_,oe,h,k=>by
  cases rep_str.mp h
  cases e with
  | non=>exact nomatch rep_non.mp k
  | bl _=>exact nomatch rep_bl.mp k
  | int _=>exact nomatch rep_int.mp k
  | str _=>cases rep_str.mp k;rfl
  | ty _=>unfold okD at oe;cases oe
  | obj _=>unfold okD at oe;cases oe
  | tup _=>obtain⟨_,_,z,_⟩:=rep_tup.mp k;cases z
  | lst _=>obtain⟨_,_,z,_⟩:=rep_lst.mp k;cases z
 | .ty _,_,_,od,_,_,_=>by unfold okD at od;cases od
 | .obj _,_,_,od,_,_,_=>by unfold okD at od;cases od
 | .tup ds,e,v,od,oe,h,k=>by
  obtain⟨a,xs,rfl,q1,q2⟩:=rep_tup.mp h
  cases e with
  | non=>exact nomatch rep_non.mp k
  | bl _=>exact nomatch rep_bl.mp k
  | int _=>exact nomatch rep_int.mp k
  | str _=>exact nomatch rep_str.mp k
  | ty _=>unfold okD at oe;cases oe
  | obj _=>unfold okD at oe;cases oe
  | tup es =>
   obtain⟨b,ys,z,p1,p2⟩:=rep_tup.mp k;cases z;rw[I.tuple_inj q1 p1] at q2;unfold okD at od oe;rw[reps_inj I od oe q2 p2]
  | lst es =>
   obtain⟨b,ys,z,p1,p2⟩:=rep_lst.mp k;cases z;exact (jCt I q1 p1).elim
 | .lst ds,e,v,od,oe,h,k=>by
  obtain⟨a,xs,rfl,q1,q2⟩:=rep_lst.mp h
  cases e with
  | non=>exact nomatch rep_non.mp k
  | bl _=>exact nomatch rep_bl.mp k
  | int _=>exact nomatch rep_int.mp k
  | str _=>exact nomatch rep_str.mp k
  | ty _=>unfold okD at oe;cases oe
  | obj _=>unfold okD at oe;cases oe
  | tup es =>
   obtain⟨b,ys,z,p1,p2⟩:=rep_tup.mp k;cases z;exact (jCt I p1 q1).elim
  | lst es =>
   obtain⟨b,ys,z,p1,p2⟩:=rep_lst.mp k;cases z;rw[I.list_inj q1 p1] at q2;unfold okD at od oe;rw[reps_inj I od oe q2 p2]
theorem reps_inj(I:Inv X U Z H s):∀ {ds es:List D} {vs:List V},okDs ds=true->okDs es=true->Reps J X.K H ds vs->Reps J X.K H es vs->ds=es
 | [],[],_,_,_,_,_=>rfl
 | [],_::_,_,_,_,h,k=>by cases reps_nil.mp h;obtain⟨_,_,z,_⟩:=reps_cons.mp k;cases z
 | _::_,[],_,_,_,h,k=>by cases reps_nil.mp k;obtain⟨_,_,z,_⟩:=reps_cons.mp h;cases z
 | d::ds,e::es,vs,od,oe,h,k=>by
  obtain⟨v,r,rfl,h1,h2⟩:=reps_cons.mp h;obtain⟨v',r',z,k1,k2⟩:=reps_cons.mp k;cases z;unfold okDs at od oe;rw[Bool.and_eq_true] at od oe;rw[juz I od.1 oe.1 h1 k1,reps_inj I od.2 oe.2 h2 k2]
end
theorem jpc(I:Inv X U Z H s):∀ (n:Nat) (A:Around) (d e:D) (v u:V) (a b:Value),depD d<=n->A.units+n+1<cLine->okD d=true->okD e=true->Rep J X.K H d v->Rep J X.K H e u->RelV v a->RelV u b ->
  SeqAt.RcAt A s a b (eqB d e)/\SeqAt.EqAt A s a b (eqB d e):=by
 intro n
 induction n with
 | zero =>
  intro A d e v u a b hd hu od oe rd re ra rb;have hu':A.units<cLine:=by omega
  have seqT:∀ {es:List D},Rep J X.K H (.tup es) u->∃ l its,b=.ref l/\s.heap.IsTuple l its:=fun h=>by
   obtain⟨l,xs,rfl,q1,_⟩:=rep_tup.mp h;obtain⟨its,_,p,_⟩:=I.tuple q1;exact⟨l,_,rb,p⟩
  have seqL:∀ {es:List D},Rep J X.K H (.lst es) u->∃ l its,b=.ref l/\s.heap.IsList l its:=fun h=>by
   obtain⟨l,xs,rfl,q1,_⟩:=rep_lst.mp h;obtain⟨its,_,p,_⟩:=I.list q1;exact⟨l,_,rb,p.isList⟩
  cases d with
  | ty _=>unfold okD at od;cases od
  | obj _=>unfold okD at od;cases od
  | tup _=>unfold depD at hd;omega
  | lst _=>unfold depD at hd;omega
  | non =>
   cases rep_non.mp rd;cases ra
   cases e with
   | ty _=>unfold okD at oe;cases oe
   | obj _=>unfold okD at oe;cases oe
   | non=>cases rep_non.mp re;cases rb;exact⟨SeqAt.RcAt.none_none,SeqAt.EqAt.same _⟩
   | bl y=>cases rep_bl.mp re;cases rb;exact⟨SeqAt.RcAt.none_bool _,SeqAt.EqAt.none_bool _⟩
   | int y=>cases rep_int.mp re;obtain⟨t,rfl⟩:=rb;exact⟨SeqAt.RcAt.none_int _ _,SeqAt.EqAt.none_int _ _⟩
   | str y=>cases rep_str.mp re;obtain⟨t,rfl⟩:=rb;exact⟨SeqAt.RcAt.none_str _ _,SeqAt.EqAt.none_str _ _⟩
   | tup es=>obtain⟨l,its,rfl,p⟩:=seqT re;exact⟨SeqAt.RcAt.none_tuple p hu',SeqAt.EqAt.none_tuple p hu'⟩
   | lst es=>obtain⟨l,its,rfl,p⟩:=seqL re;exact⟨SeqAt.RcAt.none_list p hu',SeqAt.EqAt.none_list p hu'⟩
  | bl x =>
   cases rep_bl.mp rd;cases ra
   cases e with
   | ty _=>unfold okD at oe;cases oe
   | obj _=>unfold okD at oe;cases oe
   | non=>cases rep_non.mp re;cases rb;exact⟨SeqAt.RcAt.bool_none _,SeqAt.EqAt.bool_none _⟩
   | bl y=>cases rep_bl.mp re;cases rb;exact⟨SeqAt.RcAt.bool_bool _ _,SeqAt.EqAt.bool_bool _ _⟩
   | int y=>cases rep_int.mp re;obtain⟨t,rfl⟩:=rb;exact⟨SeqAt.RcAt.bool_int _ _ _,SeqAt.EqAt.bool_int _ _ _⟩
   | str y=>cases rep_str.mp re;obtain⟨t,rfl⟩:=rb;exact⟨SeqAt.RcAt.bool_str _ _ _,SeqAt.EqAt.bool_str _ _ _⟩
   | tup es=>obtain⟨l,its,rfl,p⟩:=seqT re;exact⟨SeqAt.RcAt.bool_tuple _ p hu',SeqAt.EqAt.bool_tuple _ p hu'⟩
   | lst es=>obtain⟨l,its,rfl,p⟩:=seqL re;exact⟨SeqAt.RcAt.bool_list _ p hu',SeqAt.EqAt.bool_list _ p hu'⟩
  | int x =>
   cases rep_int.mp rd;obtain⟨ta,rfl⟩:=ra
   cases e with
   | ty _=>unfold okD at oe;cases oe
   | obj _=>unfold okD at oe;cases oe
   | non=>cases rep_non.mp re;cases rb;exact⟨SeqAt.RcAt.int_none _ _,SeqAt.EqAt.int_none _ _⟩
   | bl y=>cases rep_bl.mp re;cases rb;exact⟨SeqAt.RcAt.int_bool _ _ _,SeqAt.EqAt.int_bool _ _ _⟩
   | int y=>cases rep_int.mp re;obtain⟨t,rfl⟩:=rb;exact⟨SeqAt.RcAt.int_int _ _ _ _,SeqAt.EqAt.int_int _ _ _ _⟩
   | str y=>cases rep_str.mp re;obtain⟨t,rfl⟩:=rb;exact⟨SeqAt.RcAt.int_str _ _ _ _,SeqAt.EqAt.int_str _ _ _ _⟩
   | tup es=>obtain⟨l,its,rfl,p⟩:=seqT re;exact⟨SeqAt.RcAt.int_tuple _ _ p hu',SeqAt.EqAt.int_tuple _ _ p hu'⟩
   | lst es=>obtain⟨l,its,rfl,p⟩:=seqL re;exact⟨SeqAt.RcAt.int_list _ _ p hu',SeqAt.EqAt.int_list _ _ p hu'⟩
  | str x =>
   cases rep_str.mp rd;obtain⟨ta,rfl⟩:=ra
   cases e with
   | ty _=>unfold okD at oe;cases oe
   | obj _=>unfold okD at oe;cases oe
   | non=>cases rep_non.mp re;cases rb;exact⟨SeqAt.RcAt.str_none _ _,SeqAt.EqAt.str_none _ _⟩
   | bl y=>cases rep_bl.mp re;cases rb;exact⟨SeqAt.RcAt.str_bool _ _ _,SeqAt.EqAt.str_bool _ _ _⟩
   | int y=>cases rep_int.mp re;obtain⟨t,rfl⟩:=rb;exact⟨SeqAt.RcAt.str_int _ _ _ _,SeqAt.EqAt.str_int _ _ _ _⟩
   | str y=>cases rep_str.mp re;obtain⟨t,rfl⟩:=rb;exact⟨SeqAt.RcAt.str_str _ _ _ _,SeqAt.EqAt.str_str _ _ _ _⟩
   | tup es=>obtain⟨l,its,rfl,p⟩:=seqT re;exact⟨SeqAt.RcAt.str_tuple _ _ p hu',SeqAt.EqAt.str_tuple _ _ p hu'⟩
   | lst es=>obtain⟨l,its,rfl,p⟩:=seqL re;exact⟨SeqAt.RcAt.str_list _ _ p hu',SeqAt.EqAt.str_list _ _ p hu'⟩
 | succ n ih =>
  intro A d e v u a b hd hu od oe rd re ra rb;have hu':A.units<cLine:=by omega
  have hin:A.in1.units+n+1<cLine:=by show A.units+1+n+1<cLine;omega
  by_cases small:depD d<=n
  ·exact ih A d e v u a b small (by omega) od oe rd re ra rb
  ·-- the two are refs: the same,or apart
   have both:∀ {l m:Addr},v=.ref l->u=.ref m->a=.ref l->b=.ref m->SeqAt.RcAt A s a b (eqB d e)->SeqAt.RcAt A s a b (eqB d e)/\SeqAt.EqAt A s a b (eqB d e):=fun {l m} ev eu ea eb r=>by
    refine⟨r,?_⟩;subst ev eu ea eb
    by_cases z:l=m
    ·subst z;have:d=e:=juz I od oe rd re;subst this;rw[jqm d od];exact SeqAt.EqAt.same _
    ·exact SeqAt.EqAt.of_refs z r
   cases d with
   | ty _=>unfold okD at od;cases od
   | obj _=>unfold okD at od;cases od
   | non=>unfold depD at small;omega
   | bl _=>unfold depD at small;omega
   | int _=>unfold depD at small;omega
   | str _=>unfold depD at small;omega
   | tup ds =>
    obtain⟨l,xs,rfl,q1,q2⟩:=rep_tup.mp rd;cases ra;obtain⟨ix,rx,px,_⟩:=I.tuple q1;have px':s.heap.IsTuple l ix.toArray:=px;unfold okD at od;unfold depD at hd
    cases e with
    | ty _=>unfold okD at oe;cases oe
    | obj _=>unfold okD at oe;cases oe
    | non=>cases rep_non.mp re;cases rb;exact⟨SeqAt.RcAt.tuple_none px' hu',SeqAt.EqAt.tuple_none px' hu'⟩
    | bl y=>cases rep_bl.mp re;cases rb;exact⟨SeqAt.RcAt.tuple_bool _ px' hu',SeqAt.EqAt.tuple_bool _ px' hu'⟩
    | int y=>cases rep_int.mp re;obtain⟨t,rfl⟩:=rb;exact⟨SeqAt.RcAt.tuple_int _ _ px' hu',SeqAt.EqAt.tuple_int _ _ px' hu'⟩
    | str y=>cases rep_str.mp re;obtain⟨t,rfl⟩:=rb;exact⟨SeqAt.RcAt.tuple_str _ _ px' hu',SeqAt.EqAt.tuple_str _ _ px' hu'⟩
    | lst es =>
     obtain⟨m,ys,rfl,p1,p2⟩:=rep_lst.mp re;cases rb;obtain⟨iy,ry,py,_⟩:=I.list p1;unfold eqB;exact⟨SeqAt.RcAt.tuple_list px' py.isList hu',SeqAt.EqAt.tuple_list px' py.isList hu'⟩
    | tup es =>
     obtain⟨m,ys,rfl,p1,p2⟩:=rep_tup.mp re;cases rb;obtain⟨iy,ry,py,_⟩:=I.tuple p1;unfold okD at oe;refine both rfl rfl rfl rfl ?_;have lx:=rx.length;have ly:=ry.length;have mx:=q2.length;have my:=p2.length;have R:=SeqAt.RcAt.tuples (e:=fun j=>match ds[j]?,es[j]? with|some x,some y=>eqB x y|_,_=>false) px' (show s.heap.IsTuple m iy.toArray from py) hu' fun j h1 h2=>by
      have h1':j<ix.length:=by simpa using h1
      have h2':j<iy.length:=by simpa using h2
      have hj1:j<ds.length:=by omega
      have hj2:j<es.length:=by omega
      obtain⟨v1,e1,r1⟩:=q2.get (zax hj1);obtain⟨v2,e2,r2⟩:=p2.get (zax hj2);obtain⟨u1,f1,s1⟩:=rx.get e1;obtain⟨u2,f2,s2⟩:=ry.get e2;have g1:ix.toArray[j]=u1:=by rw[zax h1'] at f1;simpa using zbz f1
      have g2:iy.toArray[j]=u2:=by rw[zax h2'] at f2;simpa using zbz f2
      rw[g1,g2,zax hj1,zax hj2];have dd:=jf7 (zax hj1);exact (ih A.in1 _ _ v1 v2 u1 u2 (by omega) hin (jdq od (zax hj1)) (jdq oe (zax hj2)) r1 r2 s1 s2).2
     unfold eqB;have fin:((List.range (min ix.toArray.size iy.toArray.size)).all (fun j=>match ds[j]?,es[j]? with|some x,some y=>eqB x y|_,_=>false)&&ix.toArray.size == iy.toArray.size)=eqBs ds es:=by
      simp only[zby]
      by_cases hl:ds.length=es.length
      ·have e1:min ix.length iy.length=ds.length:=by omega
       have e2:(ix.length == iy.length)=true:=by simp;omega
       rw[e1,e2,Bool.and_true];exact jh8 hl _ fun j x y z1 z2=>by rw[z1,z2]
      ·have e2:(ix.length == iy.length)=false:=by simp;omega
       rw[e2,Bool.and_false]
       cases z:eqBs ds es with
       | false=>rfl
       | true=>exact absurd (eqBs_len z) hl
     rw[fin] at R;exact R
   | lst ds =>
    obtain⟨l,xs,rfl,q1,q2⟩:=rep_lst.mp rd;cases ra;obtain⟨ix,rx,px,_⟩:=I.list q1;have px':s.heap.IsList l ix.toArray:=px.isList;unfold okD at od;unfold depD at hd
    cases e with
    | ty _=>unfold okD at oe;cases oe
    | obj _=>unfold okD at oe;cases oe
    | non=>cases rep_non.mp re;cases rb;exact⟨SeqAt.RcAt.list_none px' hu',SeqAt.EqAt.list_none px' hu'⟩
    | bl y=>cases rep_bl.mp re;cases rb;exact⟨SeqAt.RcAt.list_bool _ px' hu',SeqAt.EqAt.list_bool _ px' hu'⟩
    | int y=>cases rep_int.mp re;obtain⟨t,rfl⟩:=rb;exact⟨SeqAt.RcAt.list_int _ _ px' hu',SeqAt.EqAt.list_int _ _ px' hu'⟩
    | str y=>cases rep_str.mp re;obtain⟨t,rfl⟩:=rb;exact⟨SeqAt.RcAt.list_str _ _ px' hu',SeqAt.EqAt.list_str _ _ px' hu'⟩
    | tup es =>
     obtain⟨m,ys,rfl,p1,p2⟩:=rep_tup.mp re;cases rb;obtain⟨iy,ry,py,_⟩:=I.tuple p1;unfold eqB;exact⟨SeqAt.RcAt.list_tuple px' py hu',SeqAt.EqAt.list_tuple px' py hu'⟩
    | lst es =>
     obtain⟨m,ys,rfl,p1,p2⟩:=rep_lst.mp re;cases rb;obtain⟨iy,ry,py,_⟩:=I.list p1;unfold okD at oe;refine both rfl rfl rfl rfl ?_;have lx:=rx.length;have ly:=ry.length;have mx:=q2.length;have my:=p2.length;unfold eqB
     by_cases hl:ds.length=es.length
     ·have hsz:ix.toArray.size=iy.toArray.size:=by simp only[zby];omega
      have R:=SeqAt.RcAt.lists (e:=fun j=>match ds[j]?,es[j]? with|some x,some y=>eqB x y|_,_=>false) px' py.isList hsz hu' fun j h1 h2=>by
       have h1':j<ix.length:=by simpa using h1
       have h2':j<iy.length:=by simpa using h2
       have hj1:j<ds.length:=by omega
       have hj2:j<es.length:=by omega
       obtain⟨v1,e1,r1⟩:=q2.get (zax hj1);obtain⟨v2,e2,r2⟩:=p2.get (zax hj2);obtain⟨u1,f1,s1⟩:=rx.get e1;obtain⟨u2,f2,s2⟩:=ry.get e2;have g1:ix.toArray[j]=u1:=by rw[zax h1'] at f1;simpa using zbz f1
       have g2:iy.toArray[j]=u2:=by rw[zax h2'] at f2;simpa using zbz f2
       rw[g1,g2,zax hj1,zax hj2];have dd:=jf7 (zax hj1);exact (ih A.in1 _ _ v1 v2 u1 u2 (by omega) hin (jdq od (zax hj1)) (jdq oe (zax hj2)) r1 r2 s1 s2).2
      have e1:ix.toArray.size=ds.length:=by simp only[zby];omega
      rw[e1,jh8 hl _ fun j x y z1 z2=>by rw[z1,z2]] at R;exact R
     ·have R:=SeqAt.RcAt.lists_lengths (s:=s) (A:=A) px' py.isList (by simp only[zby];simp;omega) hu'
      cases z:eqBs ds es with
      | false=>exact R
      | true=>exact absurd (eqBs_len z) hl
end
noncomputable def BIGN:Nat:=Classical.choose (⟨2 ^ 100000,rfl⟩:∃ n:Nat,n=2 ^ 100000)
theorem jsh:BIGN=2 ^ 100000:=Classical.choose_spec (⟨2 ^ 100000,rfl⟩:∃ n:Nat,n=2 ^ 100000)
def BIG:Int:=(BIGN:Int)
noncomputable def DIVN:Nat:=Classical.choose (⟨2 ^ 9000,rfl⟩:∃ n:Nat,n=2 ^ 9000)
theorem jjx:DIVN=2 ^ 9000:=Classical.choose_spec (⟨2 ^ 9000,rfl⟩:∃ n:Nat,n=2 ^ 9000)
def DIVB:Int:=(DIVN:Int)
def jg8(i:Int):Bool:=decide (-BIG<i)&&decide (i<BIG)
noncomputable def gAdd:D->D->Option D
 | .int i,.int j=>some (.int (i+j))
 | .str x,.str y=>if x.length+y.length<=sizeLine then some (.str (x++y)) else none
 | _,_=>none
noncomputable def gSub:D->D->Option D
 | .int i,.int j=>some (.int (i-j))
 | _,_=>none
def gMul:D->D->Option D
 | .int i,.int j=>if (jg8 i&&jg8 j)=true then some (.int (i*j)) else none
 | .str x,.int n=>if x.length<=4096/\-4096<=n/\n<=4096 then some (.str (Txt.mul x n)) else none
 | _,_=>none
noncomputable def gMod:D->D->Option D
 | .int i,.int j=>if 0<j then some (.int (i % j)) else none
 | _,_=>none
def jd1:D->D->Option D
 | .int i,.int j=>if 0<j/\j<DIVB then some (.int (i / j)) else none
 | _,_=>none
noncomputable def gPow:D->D->Option D
 | .int i,.int j=>if 0<=j/\j<=1000/\-(2 ^ 60)<i/\i<2 ^ 60 then some (.int (i ^ j.toNat)) else none
 | _,_=>none
noncomputable def gCmp(p:Int->Int->Bool)(q:Str->Str->Bool):D->D->Option D
 | .int i,.int j=>some (.bl (p i j))
 | .str x,.str y=>some (.bl (q x y))
 | _,_=>none
def gLt:=gCmp (fun i j=>decide (i<j)) (fun x y=>decide (x.cps.toList<y.cps.toList))
def gLe:=gCmp (fun i j=>decide (i<=j)) (fun x y=>!decide (y.cps.toList<x.cps.toList))
def gGt:=gCmp (fun i j=>decide (j<i)) (fun x y=>decide (y.cps.toList<x.cps.toList))
def gGe:=gCmp (fun i j=>decide (j<=i)) (fun x y=>!decide (x.cps.toList<y.cps.toList))
def gEq:D->D->Option D:=fun x y=>if (okD x&&okD y&&decide (depD x<=20))=true then some (.bl (eqB x y)) else none
def gNe:D->D->Option D:=fun x y=>if (okD x&&okD y&&decide (depD x<=20))=true then some (.bl !(eqB x y)) else none
noncomputable def jx1:D->Bool
 | .non=>true
 | _=>false
def gIs:D->D->Option D
 | x,.non=>some (.bl (jx1 x))
 | _,_=>none
noncomputable def gNeg:D->Option D
 | .int i=>some (.int (-i))
 | _=>none
def gIx:D->D->Option D
 | .lst ds,.int i=>atI ds i
 | .tup ds,.int i=>atI ds i
 | .str z,.int i=>if z.length<=sizeLine then (atI z.cps.toList i).map fun c=>.str ⟨#[c]⟩ else none
 | _,_=>none
theorem jp8{i:Int}(h:jg8 i=true):Builtin.Int.intBits i<=100001:=by
 unfold jg8 at h;rw[Bool.and_eq_true,decide_eq_true_eq,decide_eq_true_eq] at h;unfold Builtin.Int.intBits
 split
 ·omega
 ·have hn:i.natAbs≠0:=by
   intro z;have:i=0:=by omega
   subst this;simp at *
  have hlt:i.natAbs<BIGN:=by
   unfold BIG at h;omega
  rw[jsh] at hlt;have:=(Nat.log2_lt (k:=100000) hn).mpr hlt;omega
theorem jyn{i j:Int}(h1:jg8 i=true)(h2:jg8 j=true):IntMulOk i j:=by
 have b1:=jp8 h1;have b2:=jp8 h2;unfold IntMulOk;have:Builtin.Int.intTooBig ((Builtin.Int.intBits i:Int)+(Builtin.Int.intBits j:Int))=false:=by
  unfold Builtin.Int.intTooBig bitsLine;simp;omega
 intro h;rw[Bool.and_eq_true] at h;have h2:=h.2
 first
  | (rw[this] at h2;cases h2)
  | (push_cast at h2;rw[this] at h2;cases h2)
section
variable {X:Cx}
theorem op_addD:OpR X (binaryOp .Add) (fun x y H Q=>rI0 (fun i j=>.int (i+j)) x y H Q\/∃ i j,x=.str i/\y=.str j/\i.length+j.length<=sizeLine/\Q (.str (i++j)) H):=op_add.or jr3
theorem jhw:OpD X.K gSub (rI0 fun i j=>.int (i-j)):=by
 intro x y d hd J H G u v Q hG ru rv k;unfold gSub at hd
 split at hd
 ·cases hd;exact⟨_,_,rep_int.mp ru,rep_int.mp rv,k _ H (Same.refl H) (rep_int.mpr rfl)⟩
 ·cases hd
theorem op_mulD:OpR X (binaryOp .Mult) (fun x y H Q=>rI (fun i j=>(jg8 i&&jg8 j)=true) (fun i j=>.int (i*j)) x y H Q\/∃ z n,x=.str z/\y=.int n/\(z.length<=4096/\-4096<=n/\n<=4096)/\Q (.str (Txt.mul z n)) H):=by
 refine OpR.or (opI fun i j t u s E Q hc q=>PyProof.Rows.mul_int q (by rw[Bool.and_eq_true] at hc;exact jyn hc.1 hc.2)) ?_;intro U s Z H x y v u Q I rx ry h;obtain⟨z,n,rfl,rfl,⟨h1,h2,h3⟩,q⟩:=h;obtain⟨t,rfl⟩:=rx;obtain⟨t',rfl⟩:=ry;refine SB.mul (PyProof.Rows.mulOk_of 4096 4096 h1 h3 (by omega) (by decide) (by decide)) fun t' k=>⟨.str (Txt.mul z n),H,I.tok _,⟨_,rfl⟩,q⟩
theorem jzy:OpD X.K gMul (fun x y H Q=>rI (fun i j=>(jg8 i&&jg8 j)=true) (fun i j=>.int (i*j)) x y H Q\/∃ z n,x=.str z/\y=.int n/\(z.length<=4096/\-4096<=n/\n<=4096)/\Q (.str (Txt.mul z n)) H):=by
 intro x y d hd J H G u v Q hG ru rv k;unfold gMul at hd
 split at hd
 ·split at hd
  ·rename_i hz;cases hd;exact .inl ⟨_,_,rep_int.mp ru,rep_int.mp rv,hz,k _ H (Same.refl H) (rep_int.mpr rfl)⟩
  ·cases hd
 ·split at hd
  ·rename_i hz;cases hd;exact .inr ⟨_,_,rep_str.mp ru,rep_int.mp rv,hz,k _ H (Same.refl H) (rep_str.mpr rfl)⟩
  ·cases hd
 ·cases hd
theorem jbb:OpD X.K gMod (rI (fun _ j=>0<j) fun i j=>.int (i % j)):=by
 intro x y d hd J H G u v Q hG ru rv k;unfold gMod at hd
 split at hd
 ·split at hd
  ·rename_i hz;cases hd;exact⟨_,_,rep_int.mp ru,rep_int.mp rv,hz,k _ H (Same.refl H) (rep_int.mpr rfl)⟩
  ·cases hd
 ·cases hd
theorem jbn:OpR X (binaryOp .FloorDiv) (rI (fun _ j=>0<j/\j<DIVB) fun i j=>.int (i / j)):=opI fun i j t u s E Q hc q=>by
 have e:i.fdiv j=i / j:=Int.fdiv_eq_ediv_of_nonneg i (zcc hc.1);refine PyProof.Rows.floordiv_int (by omega) (by rw[e];exact q) (.inl (PyProof.noPylong_of_log2 ?_));have hn:j.natAbs≠0:=by omega
 have hlt:j.natAbs<DIVN:=by
  have:=hc.2;unfold DIVB at this;omega
 rw[jjx] at hlt;exact (Nat.log2_lt (k:=9000) hn).mpr hlt
theorem jbo:OpD X.K jd1 (rI (fun _ j=>0<j/\j<DIVB) fun i j=>.int (i / j)):=by
 intro x y d hd J H G u v Q hG ru rv k;unfold jd1 at hd
 split at hd
 ·split at hd
  ·rename_i hz;cases hd;exact⟨_,_,rep_int.mp ru,rep_int.mp rv,hz,k _ H (Same.refl H) (rep_int.mpr rfl)⟩
  ·cases hd
 ·cases hd
theorem jpv:OpD X.K gPow (rI CPow fun i j=>.int (i ^ j.toNat)):=by
 intro x y d hd J H G u v Q hG ru rv k;unfold gPow at hd
 split at hd
 ·split at hd
  ·rename_i hz;cases hd;exact⟨_,_,rep_int.mp ru,rep_int.mp rv,⟨hz.1,by omega,by omega⟩,k _ H (Same.refl H) (rep_int.mpr rfl)⟩
  ·cases hd
 ·cases hd
theorem jbz{p:Int->Int->Bool}{q:Str->Str->Bool}:OpD X.K (gCmp p q) (fun x y H Q=>rI0 (fun i j=>.bl (p i j)) x y H Q\/∃ i j,x=.str i/\y=.str j/\Q (.bl (q i j)) H):=by
 intro x y d hd J H G u v Q hG ru rv k;unfold gCmp at hd
 split at hd
 ·cases hd;exact .inl ⟨_,_,rep_int.mp ru,rep_int.mp rv,k _ H (Same.refl H) (rep_bl.mpr rfl)⟩
 ·cases hd;exact .inr ⟨_,_,rep_str.mp ru,rep_str.mp rv,k _ H (Same.refl H) (rep_bl.mpr rfl)⟩
 ·cases hd
theorem jun{op:CmpOp}{q:Str->Str->Bool}(h:∀ {prog:Program} {w:World} {A:Around} {E:qe} {s:Shared} {Q:qe} (x y:Str) (t u:Tok),Q (.bool (q x y)) s->wpAny (model prog w) A (compareOp op (.str x t) (.str y u)) Q E s) :
  OpR X (compareOp op) (fun x y H Q=>∃ i j,x=.str i/\y=.str j/\Q (.bl (q i j)) H):=by
 intro U s Z H x y v u Q I rx ry k;obtain⟨i,j,rfl,rfl,k⟩:=k;obtain⟨t,rfl⟩:=rx;obtain⟨t',rfl⟩:=ry;exact h i j t t' ⟨.bl (q i j),H,I,rfl,k⟩
theorem jjh:OpR X (compareOp .Lt) (fun x y H Q=>rI0 (fun i j=>.bl (decide (i<j))) x y H Q\/∃ i j,x=.str i/\y=.str j/\Q (.bl (decide (i.cps.toList<j.cps.toList))) H):=op_lt.or jul
theorem jky:OpR X (compareOp .Gt) (fun x y H Q=>rI0 (fun i j=>.bl (decide (j<i))) x y H Q\/∃ i j,x=.str i/\y=.str j/\Q (.bl (decide (j.cps.toList<i.cps.toList))) H):=op_gt.or (jun fun x y t u h=>P.gt_str h)
theorem juj:OpR X (compareOp .GtE) (fun x y H Q=>rI0 (fun i j=>.bl (decide (j<=i))) x y H Q\/∃ i j,x=.str i/\y=.str j/\Q (.bl (!decide (i.cps.toList<j.cps.toList))) H):=op_ge.or (jun fun x y t u h=>P.ge_str h)
def rEqD(K:W.Frag)(neg:Bool):R2:=fun u v H Q=>∃ J x y,okD x=true/\okD y=true/\depD x<=20/\Rep J K H x u/\Rep J K H y v/\Q (.bl (if neg then !eqB x y else eqB x y)) H
theorem jkx(hu:X.A.units+30<cLine):OpR X (compareOp .Eq) (rEqD X.K false):=by
 intro U s Z H x y v u Q I rx ry h;obtain⟨J,d,e,o1,o2,hd,r1,r2,q⟩:=h;exact (jpc I 20 X.A d e x y v u hd (by omega) o1 o2 r1 r2 rx ry).1 _ _ _ _ ⟨.bl (eqB d e),H,I,rfl,q⟩
theorem jk0:OpD X.K gEq (rEqD X.K false):=by
 intro x y d hd J H G u v Q hG ru rv k;unfold gEq at hd
 split at hd
 ·rename_i h;rw[Bool.and_eq_true,Bool.and_eq_true,decide_eq_true_eq] at h;cases hd;exact⟨J,x,y,h.1.1,h.1.2,h.2,ru.mono jao,rv.mono jao,k _ H (Same.refl H) (rep_bl.mpr rfl)⟩
 ·cases hd
theorem jhd:OpD X.K gNe (rEqD X.K true):=by
 intro x y d hd J H G u v Q hG ru rv k;unfold gNe at hd
 split at hd
 ·rename_i h;rw[Bool.and_eq_true,Bool.and_eq_true,decide_eq_true_eq] at h;cases hd;exact⟨J,x,y,h.1.1,h.1.2,h.2,ru.mono jao,rv.mono jao,k _ H (Same.refl H) (rep_bl.mpr rfl)⟩
 ·cases hd
theorem jua{J:Rho}{U:qd}{Z:St}{H:Hp}{s:Shared}(I:Inv X U Z H s)(A:Around){ds es:List D}{v u:V}{a b:Value}(hd:depD (.tup ds)<=20)(hu:A.units+24<cLine)(od:okD (.tup ds)=true)(oe:okD (.tup es)=true)
  (rd:Rep J X.K H (.tup ds) v) (re:Rep J X.K H (.tup es) u) (ra:RelV v a) (rb:RelV u b):SeqAt.RcNeAt A s a b (!eqB (.tup ds) (.tup es)):=by
 have hu':A.units<cLine:=by omega
 obtain⟨l,xs,rfl,q1,q2⟩:=rep_tup.mp rd;obtain⟨m,ys,rfl,p1,p2⟩:=rep_tup.mp re;cases ra;cases rb;obtain⟨ix,rx,px,_⟩:=I.tuple q1;obtain⟨iy,ry,py,_⟩:=I.tuple p1;unfold okD at od oe;unfold depD at hd;have lx:=rx.length;have ly:=ry.length;have mx:=q2.length;have my:=p2.length;have R:=SeqAt.RcNeAt.tuples (A:=A) (e:=fun j=>match ds[j]?,es[j]? with|some x,some y=>eqB x y|_,_=>false) (show s.heap.IsTuple l ix.toArray from px) (show s.heap.IsTuple m iy.toArray from py) hu' fun j h1 h2=>by
  have h1':j<ix.length:=by simpa using h1
  have h2':j<iy.length:=by simpa using h2
  have hj1:j<ds.length:=by omega
  have hj2:j<es.length:=by omega
  obtain⟨v1,e1,r1⟩:=q2.get (zax hj1);obtain⟨v2,e2,r2⟩:=p2.get (zax hj2);obtain⟨u1,f1,s1⟩:=rx.get e1;obtain⟨u2,f2,s2⟩:=ry.get e2;have g1:ix.toArray[j]=u1:=by rw[zax h1'] at f1;simpa using zbz f1
  have g2:iy.toArray[j]=u2:=by rw[zax h2'] at f2;simpa using zbz f2
  rw[g1,g2,zax hj1,zax hj2];have dd:=jf7 (zax hj1);exact (jpc I 20 A.in1 _ _ v1 v2 u1 u2 (by omega) (by show A.units+1+20+1<cLine;omega) (jdq od (zax hj1)) (jdq oe (zax hj2)) r1 r2 s1 s2).2
 unfold eqB;have fin:((List.range (min ix.toArray.size iy.toArray.size)).all (fun j=>match ds[j]?,es[j]? with|some x,some y=>eqB x y|_,_=>false)&&ix.toArray.size == iy.toArray.size)=eqBs ds es:=by
  simp only[zby]
  by_cases hl:ds.length=es.length
  ·have e1:min ix.length iy.length=ds.length:=by omega
   have e2:(ix.length == iy.length)=true:=by simp;omega
   rw[e1,e2,Bool.and_true];exact jh8 hl _ fun j x y z1 z2=>by rw[z1,z2]
  ·have e2:(ix.length == iy.length)=false:=by simp;omega
   rw[e2,Bool.and_false]
   cases z:eqBs ds es with
   | false=>rfl
   | true=>exact absurd (eqBs_len z) hl
 rw[fin] at R;exact R
theorem jwo{J:Rho}{U:qd}{Z:St}{H:Hp}{s:Shared}(I:Inv X U Z H s)(A:Around){ds es:List D}{v u:V}{a b:Value}(hd:depD (.lst ds)<=20)(hu:A.units+24<cLine)(od:okD (.lst ds)=true)(oe:okD (.lst es)=true)
  (rd:Rep J X.K H (.lst ds) v) (re:Rep J X.K H (.lst es) u) (ra:RelV v a) (rb:RelV u b):SeqAt.RcNeAt A s a b (!eqB (.lst ds) (.lst es)):=by
 have hu':A.units<cLine:=by omega
 obtain⟨l,xs,rfl,q1,q2⟩:=rep_lst.mp rd;obtain⟨m,ys,rfl,p1,p2⟩:=rep_lst.mp re;cases ra;cases rb;obtain⟨ix,rx,px,_⟩:=I.list q1;obtain⟨iy,ry,py,_⟩:=I.list p1;unfold okD at od oe;unfold depD at hd;have lx:=rx.length;have ly:=ry.length;have mx:=q2.length;have my:=p2.length;unfold eqB
 by_cases hl:ds.length=es.length
 ·have hsz:ix.toArray.size=iy.toArray.size:=by simp only[zby];omega
  have R:=SeqAt.RcNeAt.lists (A:=A) (e:=fun j=>match ds[j]?,es[j]? with|some x,some y=>eqB x y|_,_=>false) px.isList py.isList hsz hu' fun j h1 h2=>by
   have h1':j<ix.length:=by simpa using h1
   have h2':j<iy.length:=by simpa using h2
   have hj1:j<ds.length:=by omega
   have hj2:j<es.length:=by omega
   obtain⟨v1,e1,r1⟩:=q2.get (zax hj1);obtain⟨v2,e2,r2⟩:=p2.get (zax hj2);obtain⟨u1,f1,s1⟩:=rx.get e1;obtain⟨u2,f2,s2⟩:=ry.get e2;have g1:ix.toArray[j]=u1:=by rw[zax h1'] at f1;simpa using zbz f1
   have g2:iy.toArray[j]=u2:=by rw[zax h2'] at f2;simpa using zbz f2
   rw[g1,g2,zax hj1,zax hj2];have dd:=jf7 (zax hj1);exact (jpc I 20 A.in1 _ _ v1 v2 u1 u2 (by omega) (by show A.units+1+20+1<cLine;omega) (jdq od (zax hj1)) (jdq oe (zax hj2)) r1 r2 s1 s2).2
  have e1:ix.toArray.size=ds.length:=by simp only[zby];omega
  rw[e1,jh8 hl _ fun j x y z1 z2=>by rw[z1,z2]] at R;exact R
 ·have R:=SeqAt.RcNeAt.lists_lengths (s:=s) (A:=A) px.isList py.isList (by simp only[zby];simp;omega) hu'
  cases z:eqBs ds es with
  | false=>exact R
  | true=>exact absurd (eqBs_len z) hl
theorem jC7{J:Rho}{U:qd}{Z:St}{H:Hp}{s:Shared}(I:Inv X U Z H s)(A:Around)(d e:D)(v u:V)(a b:Value)(hd:depD d<=20)(hu:A.units+24<cLine)(od:okD d=true)(oe:okD e=true)(rd:Rep J X.K H d v)(re:Rep J X.K H e u)(ra:RelV v a)(rb:RelV u b) :
  SeqAt.RcNeAt A s a b (!eqB d e):=by
 have hu':A.units<cLine:=by omega
 have seqT:∀ {es:List D} {w:V} {c:Value},Rep J X.K H (.tup es) w->RelV w c->∃ l its,c=.ref l/\s.heap.IsTuple l its:=fun h rc=>by
  obtain⟨l,xs,rfl,q1,_⟩:=rep_tup.mp h;obtain⟨its,_,p,_⟩:=I.tuple q1;exact⟨l,_,rc,p⟩
 have seqL:∀ {es:List D} {w:V} {c:Value},Rep J X.K H (.lst es) w->RelV w c->∃ l its,c=.ref l/\s.heap.IsList l its:=fun h rc=>by
  obtain⟨l,xs,rfl,q1,_⟩:=rep_lst.mp h;obtain⟨its,_,p,_⟩:=I.list q1;exact⟨l,_,rc,p.isList⟩
 cases d with
 | ty _=>unfold okD at od;cases od
 | obj _=>unfold okD at od;cases od
 | non =>
  cases e with
  | ty _=>unfold okD at oe;cases oe
  | obj _=>unfold okD at oe;cases oe
  | non=>cases rep_non.mp rd;cases ra;cases rep_non.mp re;cases rb;unfold eqB;exact SeqAt.RcNeAt.none_none
  | bl y=>cases rep_non.mp rd;cases ra;cases rep_bl.mp re;cases rb;unfold eqB;exact SeqAt.RcNeAt.none_bool _
  | int y=>cases rep_non.mp rd;cases ra;cases rep_int.mp re;obtain⟨t2,rfl⟩:=rb;unfold eqB;exact SeqAt.RcNeAt.none_int _ _
  | str y=>cases rep_non.mp rd;cases ra;cases rep_str.mp re;obtain⟨t2,rfl⟩:=rb;unfold eqB;exact SeqAt.RcNeAt.none_str _ _
  | tup y=>cases rep_non.mp rd;cases ra;obtain⟨l2,i2,rfl,p2⟩:=seqT re rb;unfold eqB;exact SeqAt.RcNeAt.none_tuple p2 hu'
  | lst y=>cases rep_non.mp rd;cases ra;obtain⟨l2,i2,rfl,p2⟩:=seqL re rb;unfold eqB;exact SeqAt.RcNeAt.none_list p2 hu'
 | bl x =>
  cases e with
  | ty _=>unfold okD at oe;cases oe
  | obj _=>unfold okD at oe;cases oe
  | non=>cases rep_bl.mp rd;cases ra;cases rep_non.mp re;cases rb;unfold eqB;exact SeqAt.RcNeAt.bool_none _
  | bl y=>cases rep_bl.mp rd;cases ra;cases rep_bl.mp re;cases rb;unfold eqB;exact SeqAt.RcNeAt.bool_bool _ _
  | int y=>cases rep_bl.mp rd;cases ra;cases rep_int.mp re;obtain⟨t2,rfl⟩:=rb;unfold eqB;exact SeqAt.RcNeAt.bool_int _ _ _
  | str y=>cases rep_bl.mp rd;cases ra;cases rep_str.mp re;obtain⟨t2,rfl⟩:=rb;unfold eqB;exact SeqAt.RcNeAt.bool_str _ _ _
  | tup y=>cases rep_bl.mp rd;cases ra;obtain⟨l2,i2,rfl,p2⟩:=seqT re rb;unfold eqB;exact SeqAt.RcNeAt.bool_tuple _ p2 hu'
  | lst y=>cases rep_bl.mp rd;cases ra;obtain⟨l2,i2,rfl,p2⟩:=seqL re rb;unfold eqB;exact SeqAt.RcNeAt.bool_list _ p2 hu'
 | int x =>
  cases e with
  | ty _=>unfold okD at oe;cases oe
  | obj _=>unfold okD at oe;cases oe
  | non=>cases rep_int.mp rd;obtain⟨t1,rfl⟩:=ra;cases rep_non.mp re;cases rb;unfold eqB;exact SeqAt.RcNeAt.int_none _ _
  | bl y=>cases rep_int.mp rd;obtain⟨t1,rfl⟩:=ra;cases rep_bl.mp re;cases rb;unfold eqB;exact SeqAt.RcNeAt.int_bool _ _ _
  | int y=>cases rep_int.mp rd;obtain⟨t1,rfl⟩:=ra;cases rep_int.mp re;obtain⟨t2,rfl⟩:=rb;unfold eqB;exact SeqAt.RcNeAt.int_int _ _ _ _
  | str y=>cases rep_int.mp rd;obtain⟨t1,rfl⟩:=ra;cases rep_str.mp re;obtain⟨t2,rfl⟩:=rb;unfold eqB;exact SeqAt.RcNeAt.int_str _ _ _ _
  | tup y=>cases rep_int.mp rd;obtain⟨t1,rfl⟩:=ra;obtain⟨l2,i2,rfl,p2⟩:=seqT re rb;unfold eqB;exact SeqAt.RcNeAt.int_tuple _ _ p2 hu'
  | lst y=>cases rep_int.mp rd;obtain⟨t1,rfl⟩:=ra;obtain⟨l2,i2,rfl,p2⟩:=seqL re rb;unfold eqB;exact SeqAt.RcNeAt.int_list _ _ p2 hu'
 | str x =>
  cases e with
  | ty _=>unfold okD at oe;cases oe
  | obj _=>unfold okD at oe;cases oe
  | non=>cases rep_str.mp rd;obtain⟨t1,rfl⟩:=ra;cases rep_non.mp re;cases rb;unfold eqB;exact SeqAt.RcNeAt.str_none _ _
  | bl y=>cases rep_str.mp rd;obtain⟨t1,rfl⟩:=ra;cases rep_bl.mp re;cases rb;unfold eqB;exact SeqAt.RcNeAt.str_bool _ _ _
  | int y=>cases rep_str.mp rd;obtain⟨t1,rfl⟩:=ra;cases rep_int.mp re;obtain⟨t2,rfl⟩:=rb;unfold eqB;exact SeqAt.RcNeAt.str_int _ _ _ _
  | str y=>cases rep_str.mp rd;obtain⟨t1,rfl⟩:=ra;cases rep_str.mp re;obtain⟨t2,rfl⟩:=rb;unfold eqB;exact SeqAt.RcNeAt.str_str _ _ _ _
  | tup y=>cases rep_str.mp rd;obtain⟨t1,rfl⟩:=ra;obtain⟨l2,i2,rfl,p2⟩:=seqT re rb;unfold eqB;exact SeqAt.RcNeAt.str_tuple _ _ p2 hu'
  | lst y=>cases rep_str.mp rd;obtain⟨t1,rfl⟩:=ra;obtain⟨l2,i2,rfl,p2⟩:=seqL re rb;unfold eqB;exact SeqAt.RcNeAt.str_list _ _ p2 hu'
 | tup x =>
  cases e with
  | ty _=>unfold okD at oe;cases oe
  | obj _=>unfold okD at oe;cases oe
  | non=>obtain⟨l1,i1,rfl,p1⟩:=seqT rd ra;cases rep_non.mp re;cases rb;unfold eqB;exact SeqAt.RcNeAt.tuple_none p1 hu'
  | bl y=>obtain⟨l1,i1,rfl,p1⟩:=seqT rd ra;cases rep_bl.mp re;cases rb;unfold eqB;exact SeqAt.RcNeAt.tuple_bool _ p1 hu'
  | int y=>obtain⟨l1,i1,rfl,p1⟩:=seqT rd ra;cases rep_int.mp re;obtain⟨t2,rfl⟩:=rb;unfold eqB;exact SeqAt.RcNeAt.tuple_int _ _ p1 hu'
  | str y=>obtain⟨l1,i1,rfl,p1⟩:=seqT rd ra;cases rep_str.mp re;obtain⟨t2,rfl⟩:=rb;unfold eqB;exact SeqAt.RcNeAt.tuple_str _ _ p1 hu'
  | tup y=>exact jua I A hd hu od oe rd re ra rb
  | lst y=>obtain⟨l1,i1,rfl,p1⟩:=seqT rd ra;obtain⟨l2,i2,rfl,p2⟩:=seqL re rb;unfold eqB;exact SeqAt.RcNeAt.tuple_list p1 p2 hu'
 | lst x =>
  cases e with
  | ty _=>unfold okD at oe;cases oe
  | obj _=>unfold okD at oe;cases oe
  | non=>obtain⟨l1,i1,rfl,p1⟩:=seqL rd ra;cases rep_non.mp re;cases rb;unfold eqB;exact SeqAt.RcNeAt.list_none p1 hu'
  | bl y=>obtain⟨l1,i1,rfl,p1⟩:=seqL rd ra;cases rep_bl.mp re;cases rb;unfold eqB;exact SeqAt.RcNeAt.list_bool _ p1 hu'
  | int y=>obtain⟨l1,i1,rfl,p1⟩:=seqL rd ra;cases rep_int.mp re;obtain⟨t2,rfl⟩:=rb;unfold eqB;exact SeqAt.RcNeAt.list_int _ _ p1 hu'
  | str y=>obtain⟨l1,i1,rfl,p1⟩:=seqL rd ra;cases rep_str.mp re;obtain⟨t2,rfl⟩:=rb;unfold eqB;exact SeqAt.RcNeAt.list_str _ _ p1 hu'
  | tup y=>obtain⟨l1,i1,rfl,p1⟩:=seqL rd ra;obtain⟨l2,i2,rfl,p2⟩:=seqT re rb;unfold eqB;exact SeqAt.RcNeAt.list_tuple p1 p2 hu'
  | lst y=>exact jwo I A hd hu od oe rd re ra rb
theorem jhc(hu:X.A.units+30<cLine):OpR X (compareOp .NotEq) (rEqD X.K true):=by
 intro U s Z H x y v u Q I rx ry h;obtain⟨J,d,e,o1,o2,hd,r1,r2,q⟩:=h;exact jC7 I X.A d e x y v u hd (by omega) o1 o2 r1 r2 rx ry _ _ _ _ ⟨.bl (!eqB d e),H,I,rfl,q⟩
theorem jlx:OpD X.K gIs (fun x y H Q=>y=.non/\Q (.bl (decide (x=.non))) H):=by
 intro x y d hd J H G u v Q hG ru rv k
 cases y with
 | non =>
  cases hd;refine⟨rep_non.mp rv,?_⟩;have e:decide (u=V.non)=jx1 x:=by
   cases x with
   | non=>cases rep_non.mp ru;rfl
   | bl _=>cases rep_bl.mp ru;rfl
   | int _=>cases rep_int.mp ru;rfl
   | str _=>cases rep_str.mp ru;rfl
   | ty _=>cases rep_ty.mp ru;rfl
   | obj _=>obtain⟨_,_,rfl⟩:=rep_obj.mp ru;rfl
   | tup _=>obtain⟨_,_,rfl,_⟩:=rep_tup.mp ru;rfl
   | lst _=>obtain⟨_,_,rfl,_⟩:=rep_lst.mp ru;rfl
  rw[e];exact k _ H (Same.refl H) (rep_bl.mpr rfl)
 | _=>cases hd
theorem jcx:UnD X.K gNeg (rU fun i=>.int (-i)):=by
 intro x d hd J H G u Q hG ru k
 cases x with
 | int i=>cases hd;exact⟨i,rep_int.mp ru,k _ H (Same.refl H) (rep_int.mpr rfl)⟩
 | _=>cases hd
theorem jp0{J:Rho}{K:W.Frag}{H:Hp}{ds:List D}{xs:List V}{i:Int}{d:D}(h:Reps J K H ds xs)(e:atI ds i=some d):∃ v,atI xs i=some v/\Rep J K H d v:=by
 unfold atI at e |-
 rw[h.length]
 cases z:ixN ds.length i with
 | none=>rw[z] at e;cases e
 | some j=>rw[z] at e;exact h.get e
theorem jai:OpD X.K gIx (rIx X.K):=by
 intro x y d hd J H G u v Q hG ru rv k;unfold gIx at hd
 split at hd
 ·obtain⟨a,xs,rfl,q1,q2⟩:=rep_lst.mp ru;obtain⟨w,e,r⟩:=jp0 q2 hd;exact .inl ⟨a,xs,_,w,rfl,rep_int.mp rv,jdi jao q1,e,k w H (Same.refl H) r⟩
 ·obtain⟨a,xs,rfl,q1,q2⟩:=rep_tup.mp ru;obtain⟨w,e,r⟩:=jp0 q2 hd;exact .inr (.inl ⟨a,xs,_,w,rfl,rep_int.mp rv,jdl jao q1,e,k w H (Same.refl H) r⟩)
 ·split at hd
  ·rename_i z i hz
   cases e:atI z.cps.toList i with
   | none=>rw[e] at hd;cases hd
   | some c =>
    rw[e] at hd;cases hd;exact .inr (.inr ⟨z,i,c,rep_str.mp ru,rep_int.mp rv,hz,e,k _ H (Same.refl H) (rep_str.mpr rfl)⟩)
  ·cases hd
 ·cases hd
noncomputable def kLen:List D->Option D
 | [.lst ds]=>some (.int ds.length)
 | [.tup ds]=>some (.int ds.length)
 | [.str z]=>if z.length<=sizeLine then some (.int z.length) else none
 | _=>none
theorem ji0{J:Rho}{K:W.Frag}{H:Hp}{d:D}{vs:List V}(h:Reps J K H [d] vs):∃ v,vs=[v]/\Rep J K H d v:=by
 obtain⟨v,r,rfl,q1,q2⟩:=reps_cons.mp h;cases reps_nil.mp q2;exact⟨v,rfl,q1⟩
theorem jD7{J:Rho}{K:W.Frag}{H:Hp}{d e:D}{vs:List V}(h:Reps J K H [d,e] vs):∃ v u,vs=[v,u]/\Rep J K H d v/\Rep J K H e u:=by
 obtain⟨v,r,rfl,q1,q2⟩:=reps_cons.mp h;obtain⟨u,rfl,q3⟩:=ji0 q2;exact⟨v,u,rfl,q1,q3⟩
theorem jbf:CallR X (.builtin "len") (fun xs H Q=>(∃ p ys,xs=[.ref p]/\(SqL X.K H p ys\/SqT X.K H p ys)/\Q (.int ys.length) H)\/∃ z,xs=[.str z]/\z.length<=sizeLine/\Q (.int z.length) H):=call_len_seq.or jnm
theorem jck:CaD X.K kLen (fun xs H Q=>(∃ p ys,xs=[.ref p]/\(SqL X.K H p ys\/SqT X.K H p ys)/\Q (.int ys.length) H)\/∃ z,xs=[.str z]/\z.length<=sizeLine/\Q (.int z.length) H):=by
 intro xs d hd J H G us Q hG ru k;unfold kLen at hd
 split at hd
 ·cases hd;obtain⟨v,rfl,q⟩:=ji0 ru;obtain⟨a,ys,rfl,q1,q2⟩:=rep_lst.mp q;exact .inl ⟨a,ys,rfl,.inl (jdi jao q1),k _ H (Same.refl H) (rep_int.mpr (by rw[q2.length]))⟩
 ·cases hd;obtain⟨v,rfl,q⟩:=ji0 ru;obtain⟨a,ys,rfl,q1,q2⟩:=rep_tup.mp q;exact .inl ⟨a,ys,rfl,.inr (jdl jao q1),k _ H (Same.refl H) (rep_int.mpr (by rw[q2.length]))⟩
 ·split at hd
  ·rename_i z hz;cases hd;obtain⟨v,rfl,q⟩:=ji0 ru;cases rep_str.mp q;exact .inr ⟨z,rfl,hz,k _ H (Same.refl H) (rep_int.mpr rfl)⟩
  ·cases hd
 ·cases hd
noncomputable def kTuple:List D->Option D
 | [.lst ds]=>some (.tup ds)
 | [.tup ds]=>some (.tup ds)
 | _=>none
theorem jex:CaD X.K kTuple (fun xs H Q=>∃ p ys,xs=[.ref p]/\((SqL X.K H p ys/\∀ l,H l=none->Q (.ref l) (upd H l (.tup ys)))\/(SqT X.K H p ys/\Q (.ref p) H))):=by
 intro xs d hd J H G us Q hG ru k;unfold kTuple at hd
 split at hd
 ·cases hd;obtain⟨v,rfl,q⟩:=ji0 ru;obtain⟨a,ys,rfl,q1,q2⟩:=rep_lst.mp q;exact⟨a,ys,rfl,.inl ⟨jdi jao q1,fun l hl=>k _ _ (jax hl) (jb4 hl (hG l hl) q2)⟩⟩
 ·cases hd;obtain⟨v,rfl,q⟩:=ji0 ru;obtain⟨a,ys,rfl,q1,q2⟩:=rep_tup.mp q;exact⟨a,ys,rfl,.inr ⟨jdl jao q1,k _ H (Same.refl H) q⟩⟩
 ·cases hd
noncomputable def kList:List D->Option D
 | [.lst ds]=>some (.lst ds)
 | [.tup ds]=>some (.lst ds)
 | _=>none
noncomputable def kMin:List D->Option D
 | [.int i,.int j]=>some (.int (if j<i then j else i))
 | _=>none
noncomputable def kAbs:List D->Option D
 | [.int i]=>some (.int (if i<0 then -i else i))
 | _=>none
theorem jo7:CaD X.K kAbs (fun xs H Q=>∃ i,xs=[.int i]/\Q (.int (if i<0 then -i else i)) H):=by
 intro xs d hd J H G us Q hG ru k;unfold kAbs at hd
 split at hd
 ·cases hd;obtain⟨v,rfl,q1⟩:=ji0 ru;cases rep_int.mp q1;exact⟨_,rfl,k _ H (Same.refl H) (rep_int.mpr rfl)⟩
 ·cases hd
noncomputable def kInt:List D->Option D
 | [.int i]=>some (.int i)
 | [.bl k]=>some (.int (if k then 1 else 0))
 | _=>none
noncomputable def jiv:List D->Option (List Int)
 | []=>some []
 | .int i::ds=>(jiv ds).map (i::·)
 | _::_=>none
theorem jmr:∀ {ds:List D} {ns:List Int},jiv ds=some ns->ds=ns.map .int
 | [],_,h=>by cases h;rfl
 | .int i::ds,ns,h=>by
  unfold jiv at h
  cases e:jiv ds with
  | none=>rw[e] at h;cases h
  | some ms=>rw[e] at h;cases h;rw[jmr e];rfl
 | .non::_,_,h=>by cases h
 | .bl _::_,_,h=>by cases h
 | .str _::_,_,h=>by cases h
 | .ty _::_,_,h=>by cases h
 | .obj _::_,_,h=>by cases h
 | .tup _::_,_,h=>by cases h
 | .lst _::_,_,h=>by cases h
theorem jtm(ns:List Int):jiv (ns.map .int)=some ns:=by
 induction ns with
 | nil=>rfl
 | cons n ns ih=>rw[List.map_cons];unfold jiv;rw[ih];rfl
def kSum:List D->Option D
 | [d]=>match seqD d with
  | some ds=>(jiv ds).map fun ns=>.int ns.sum
  | none=>none
 | _=>none
theorem jut(ns:List Int):∀ k,k<=ns.length->preSum (fun i=>ns.getD i 0) k=(ns.take k).sum:=by
 intro k
 induction k with
 | zero=>intro _;rfl
 | succ k ih =>
  intro h;show preSum _ k+ns.getD k 0=_;rw[ih (by omega),List.take_succ,List.sum_append];congr 1;rw[zbx,zax (by omega)];simp
theorem jj9(hc:X.calm=true):CallR X (.builtin "sum") (fun xs H Q=>∃ k p,∃ ns:List Int,xs=[.ref p]/\SqV k X.K H p (ns.map V.int)/\Q (.int ns.sum) H):=by
 intro U s Z H xs us Q I r h;obtain⟨k,p,ns,rfl,hq,q⟩:=h;obtain⟨u,rfl,rx⟩:=r.one;cases rx;obtain⟨its,rv,src,hz⟩:=I.src hq;have hl:=rv.length;rw[zav] at hl;have hh:X.A.in1.handled=none:=I.ok.hd hc;have val:∀ (i:Nat) v,its.toArray[i]? = some v->∃ t,v=.int (ns.getD i 0) t:=fun i v e=>by
  have hi:i<ns.length:=by rw[hl];have:=(Array.getElem?_eq_some_iff.mp e).1;simpa using this
  obtain⟨v',e1,r1⟩:=rv.get (i:=i) (x:=.int ns[i]) (by rw[zbb,zax hi];rfl);have:v=v':=by
   have e':its[i]? = some v:=by simpa using e
   rw[e'] at e1;exact zbz e1
  subst this;rw[zbx,zax hi];exact r1
 have fin:∀ {it:Addr} {s2:Shared} {h':Heap} {tk:Nat} {t':Tok},s.heap.objs.size=it->(∀ b o,s.heap.get? b=some o->s2.heap.get? b=some o)->s2={ s with heap:=s2.heap }->(∀ b o,b∉[it]->s2.heap.get? b=some o->h'.get? b=some o) ->
   EP X U Z Q (.int (preSum (fun i=>ns.getD i 0) its.toArray.size) t') { s2 with heap:=h',toks:=tk }:=fun {it s2 h' tk t'} e1 e2 e3 e4=>by
  have ep:preSum (fun i=>ns.getD i 0) its.toArray.size=ns.sum:=by
   rw[zby,<- hl,jut ns _ (zac _),List.take_length]
  rw[ep,e3];refine⟨.int ns.sum,H,I.kept fun b o e=>e4 b o ?_ (e2 b o e),⟨_,rfl⟩,q⟩;intro z;have:b=it:=by simpa using z
  rw[this,<- e1] at e;exact absurd (zbw e) (Nat.lt_irrefl _)
 refine call_sum_walkG ?_
 cases k with
 | true =>
  have src':s.heap.IsTuple p its.toArray:=src;have hp:p<s.heap.objs.size:=by obtain⟨o,e,_⟩:=src';exact zbw e
  refine wpAny_pyIter_tuple src' ?_;refine⟨_,_,_,_,_,_,_,rfl,Walks.tuple hh s.heap.objs.size p (zcb hp) its.toArray,⟨⟨_,zbv _ rfl,rfl,rfl⟩,src'.at fun o e=>zaz _ e⟩,fun b hb=>?_,val,fun h' tk t' kp=>fin rfl (fun b o e=>zaz _ e) rfl kp⟩;rw[Heap.size_push];simp only[List.mem_cons,List.not_mem_nil,or_false] at hb;rcases hb with rfl|rfl
  ·exact Nat.lt_succ_self _
  ·exact Nat.lt_succ_of_lt hp
 | false =>
  have src':s.heap.IsList p its.toArray:=src;have hp:p<s.heap.objs.size:=by obtain⟨o,e,_⟩:=src';exact zbw e
  refine wpAny_pyIter_list src' ?_;refine⟨_,_,_,_,_,_,_,rfl,Walks.list hh s.heap.objs.size p (zcb hp) its.toArray,⟨⟨_,zbv _ rfl,rfl,rfl⟩,src'.at fun o e=>zaz _ e⟩,fun b hb=>?_,val,fun h' tk t' kp=>fin rfl (fun b o e=>zaz _ e) rfl kp⟩;rw[Heap.size_push];simp only[List.mem_cons,List.not_mem_nil,or_false] at hb;rcases hb with rfl|rfl
  ·exact Nat.lt_succ_self _
  ·exact Nat.lt_succ_of_lt hp
theorem jo8:CaD X.K kSum (fun xs H Q=>∃ k p,∃ ns:List Int,xs=[.ref p]/\SqV k X.K H p (ns.map V.int)/\Q (.int ns.sum) H):=by
 intro xs d hd J H G us Q hG ru k;unfold kSum at hd
 split at hd
 ·rename_i d0
  split at hd
  ·rename_i ds es
   cases e:jiv ds with
   | none=>rw[e] at hd;cases hd
   | some ns =>
    rw[e] at hd;cases hd;obtain⟨v,rfl,q⟩:=ji0 ru;obtain⟨kk,l,ys,rfl,q1,q2⟩:=jq8 es q;rw[jmr e] at q2;rw[reps_ints.mp q2] at q1;exact⟨kk,l,ns,rfl,jl3 jao q1,k _ H (Same.refl H) (rep_int.mpr rfl)⟩
  ·cases hd
 ·cases hd
noncomputable def isiD(T:String):D->Option Bool
 | .non=>some (T == "NoneType")
 | .bl _=>some (T == "bool" || T == "int")
 | .int _=>some (T == "int")
 | .str _=>some (T == "str")
 | .tup _=>some (T == "tuple")
 | .lst _=>some (T == "list")
 | _=>none
def kIsi:List D->Option D
 | [d,.ty T]=>if T="int"\/T="bool"\/T="tuple"\/T="list"\/T="str" then (isiD T d).map .bl else none
 | _=>none
end
section
variable {X:Cx}
def rIsi(K:W.Frag):List V->Hp->VK->Prop:=fun xs H Q=>∃ J d v T b,xs=[v,.ty T]/\Rep J K H d v/\kIsi [d,.ty T]=some (.bl b)/\Q (.bl b) H
theorem jhz:CallR X (.builtin "isinstance") (rIsi X.K):=by
 intro U s Z H xs us Q I r h;obtain⟨J,d,v,T,b,rfl,rd,hk,q⟩:=h;obtain⟨u,c,rfl,ru,rc⟩:=r.two;cases rc;have fin:∀ tk,EP X U Z Q (.bool b) { s with toks:=tk }:=fun tk=>⟨.bl b,H,I.tok _,rfl,q⟩
 have hk2:(if T="int"\/T="bool"\/T="tuple"\/T="list"\/T="str" then (isiD T d).map D.bl else none)=some (.bl b):=hk
 clear hk
 by_cases hT:T="int"\/T="bool"\/T="tuple"\/T="list"\/T="str"
 ·rw[if_pos hT] at hk2;have hk:=hk2
  clear hk2
  cases d with
  | ty _=>cases hk
  | obj _=>cases hk
  | non =>
   cases rep_non.mp rd;cases ru
   rcases hT with rfl|rfl|rfl|rfl|rfl<;>(cases hk;exact W.kia_one W.kitx_none I.kIn True.intro rfl (fun z=>nomatch z) fin)
  | bl x =>
   cases rep_bl.mp rd;cases ru
   rcases hT with rfl|rfl|rfl|rfl|rfl<;>(cases hk;exact W.kia_one W.kitx_bool I.kIn True.intro rfl (fun z=>nomatch z) fin)
  | int x =>
   cases rep_int.mp rd;obtain⟨t,rfl⟩:=ru
   rcases hT with rfl|rfl|rfl|rfl|rfl<;>(cases hk;exact W.kia_one W.kitx_int I.kIn True.intro rfl (fun z=>nomatch z) fin)
  | str x =>
   cases rep_str.mp rd;obtain⟨t,rfl⟩:=ru
   rcases hT with rfl|rfl|rfl|rfl|rfl<;>(cases hk;exact W.kia_one W.kitx_str I.kIn True.intro rfl (fun z=>nomatch z) fin)
  | tup x =>
   obtain⟨a,ys,rfl,q1,q2⟩:=rep_tup.mp rd;cases ru;obtain⟨its,_,⟨o,e,hc,_⟩,_⟩:=I.tuple q1;rcases hT with rfl|rfl|rfl|rfl|rfl<;>(cases hk;exact W.kia_one W.kitx_tuple I.kIn ⟨o,e,hc⟩ rfl (fun z=>nomatch z) fin)
  | lst x =>
   obtain⟨a,ys,rfl,q1,q2⟩:=rep_lst.mp rd;cases ru;obtain⟨its,_,p,_⟩:=I.list q1;obtain⟨o,e,hc,_⟩:=p.isList;rcases hT with rfl|rfl|rfl|rfl|rfl<;>(cases hk;exact W.kia_one W.kitx_list I.kIn ⟨o,e,hc⟩ rfl (fun z=>nomatch z) fin)
 ·rw[if_neg hT] at hk2;cases hk2
theorem jmh:CaD X.K kIsi (rIsi X.K):=by
 intro xs d hd J H G us Q hG ru k;have hd0:=hd;unfold kIsi at hd
 split at hd
 ·rename_i d0 T
  split at hd
  ·obtain⟨v,u,rfl,q1,q2⟩:=jD7 ru;cases rep_ty.mp q2
   cases e:isiD T d0 with
   | none=>rw[e] at hd;cases hd
   | some b =>
    rw[e] at hd;cases hd;exact⟨J,d0,v,T,b,rfl,q1.mono jao,hd0,k _ H (Same.refl H) (rep_bl.mpr rfl)⟩
  ·cases hd
 ·cases hd
theorem jmm{O:List Nat}{E:XK}{x:Str}{T:String}{pos:Pos}(hg:Gl X x)(hm:X.mg x=none)(hv:bootBuiltins x=some (.type T))(hn:autoParam (x≠"__name__") zau1._auto_1)(hd:autoParam (qj x) zau1._auto_1):DE X O E (.Name x pos) (fC (.ty T)) :=
 jno (t:=tC (.ty T)) (v:=.ty T) (jz1 (v:=.ty T) hg hm hv rfl hn hd) fun _ _=>rep_ty.mpr rfl
end
inductive spD(K:W.Frag)(n:Nat)(m:List D->M D)(vs:List V)(H:Hp)(Q:VK)(E:XK):Prop
 | mk (hn:vs.length=n) (J:Rho) (ds:List D) (r:Except XD D) (F:qf) (hF:∀ b,F b=true->H b≠none) (hr:Reps J K (hid H F) ds vs) (hf:m ds=some r) (k:match (generalizing:=false) r with
  | .ok d=>∀ v H',Same H H'->Rep J K (hid H' F) d v->Q v H'
  | .error x=>okX K H E x)
inductive CalX(P:Program)(w:World)(K:W.Frag)(mg:qc)(base:Heap)(k:Nat)(x:Str)(n:Nat)(sp:Sp):Prop
 | mk (f:Addr) (fd:FuncData) (ps:List Str) (h1:ps.length=n) (h2:mg x=some (.ref f)) (h3:W.keepIn K (.ref f)=true) (h4:Binds K fd ps []) (h5:FnOk P w K mg base CX0 k f fd ps sp)
structure Cal(P:Program)(w:World)(K:W.Frag)(mg:qc)(base:Heap)(k:Nat)(x:Str)(n:Nat)(m:List D->M D):Prop where
 ex:CalX P w K mg base k x n (spD K n m)
 ar:∀ ds r,m ds=some r->ds.length=n
def jbh(K:W.Frag)(mg:qc)(x:Str)(st:Stmt)(ps:List Str):Prop:=∃ f fd,mg x=some (.ref f)/\Fun K x x st f fd/\Binds K fd ps []
noncomputable def startD(n:Nat)(ds:List D):DSt:=ds.map some++List.replicate (n-ds.length) none
def outD:Out->M D
 | .rt d=>M.p d
 | .nx _=>M.p .non
 | _=>none
def mir(n N:Nat)(g:DSt->M Out):List D->M D:=fun ds=>if ds.length=n then (g (startD N ds)).b outD else none
theorem ji1{N:Nat}{ds:List D}{i:Nat}{d:D}(h:(startD N ds)[i]? = some (some d)):ds[i]? = some d:=by
 unfold startD at h
 by_cases hi:i<ds.length
 ·rw[List.getElem?_append_left (by simpa using hi),zbb] at h
  cases e:ds[i]? with
  | none=>rw[e] at h;cases h
  | some a=>rw[e] at h;cases h;rfl
 ·rw[List.getElem?_append_right (by simpa using hi),List.getElem?_replicate] at h
  split at h<;>cases h
theorem jk5{N:List Str}{vs:List V}{i:Nat}{v:V}(h:vs[i]? = some v):(L2.start N vs)[i]? = some (some v):=by
 unfold L2.start;have hi:i<vs.length:=(zbc.mp h).1;rw[List.getElem?_append_left (by simpa using hi),zbb,h];rfl
section
variable {P:Program}{w:World}{K:W.Frag}{mg:qc}{base:Heap}
theorem fn_D{x:Str}{st:Stmt}{N ps:List Str}{k:Nat}{O':List Nat}{g:DSt->M Out}{f:Addr}{fd:FuncData}(F:Fun K x x st f fd)(S:FnScope N ps (jae st))
  (hbody:∀ (f:Addr) (cdv:Value) (A:Around) (outer:List Env) (s:Shared) (H:Hp) (E:XK),Room k (A.deeper (PyProof.Rows.envOfC x (jae st) s.heap.objs.size f cdv)) ->
   DSs (cxOf CX0 P w K mg base N x (jae st) f cdv A outer s H E).nox [] O' [] E (jbp st) g):FnOk P w K mg base CX0 (k+1) f fd ps (spD K ps.length (mir ps.length N.length g)):=by
 refine F.ok S (fun vs H Q E h=>h.1) fun cdv A outer s H vs Q E hr h=>?_
 obtain⟨hl,J,ds,r,F',fin,rp,hmr,k0⟩:=h;refine⟨_,hbody f cdv A outer s H E hr,?_⟩;have hpl:ps.length<=N.length:=by have:=congrArg List.length S.pre;rw[List.length_take] at this;omega
 have hdl:ds.length=ps.length:=by rw[<- rp.length];exact hl
 unfold mir at hmr;rw[if_pos hdl] at hmr;have R:RS J K H H F' [] (L2.start N vs) (startD N.length ds):=by
  refine⟨?_,Same.refl H,fin,fun i d hd _=>?_,fun i hi=>absurd hi (by simp),fun i hi=>absurd hi (by simp)⟩
  ·simp[L2.start,startD,rp.length]
  ·obtain⟨v,e,rv⟩:=rp.get (ji1 hd);exact⟨v,jk5 e,by rw[ja8];exact rv⟩
 rcases M.b_inv hmr with ⟨o,e1,hmr⟩|⟨y,e1,rfl⟩
 ·refine⟨J,H,F',_,.ok o,R,e1,?_⟩
  cases o with
  | rt d=>cases hmr;exact fun v H' s' rv=>k0 v H' s' rv
  | nx Y=>cases hmr;exact fun Z' H' f' R'=>k0 .non H' R'.same (rep_non.mpr rfl)
  | bk Y=>cases hmr
  | ct Y=>cases hmr
 ·exact⟨J,H,F',_,.error y,R,e1,k0⟩
theorem jbk{x:Str}{st:Stmt}{N ps:List Str}{k:Nat}{O':List Nat}{g:DSt->M Out}(hf:jbh K mg x st ps)(S:FnScope N ps (jae st))
  (hbody:∀ (f:Addr) (cdv:Value) (A:Around) (outer:List Env) (s:Shared) (H:Hp) (E:XK),Room k (A.deeper (PyProof.Rows.envOfC x (jae st) s.heap.objs.size f cdv)) ->
   DSs (cxOf CX0 P w K mg base N x (jae st) f cdv A outer s H E).nox [] O' [] E (jbp st) g):Cal P w K mg base (k+1) x ps.length (mir ps.length N.length g):=by
 obtain⟨f,fd,hm,F,hb⟩:=hf;refine⟨⟨f,fd,ps,rfl,hm,F.kp,hb,fn_D F S hbody⟩,fun ds r h=>?_⟩;unfold mir at h
 split at h
 ·assumption
 ·cases h
theorem jjp{h:Heap}{x:Str}{st:Stmt}{ps:List Str}{f:Addr}{oc:Value}{od an:Option Addr}{osl:qg}{kV doc pm cdv ct:Value}(X:K.In h)(G:h.Ns mainGlobals mg)
  (hb:∀ (kV doc pm:Value) (an:Option Addr) (cdv ct:Value) (us:List Value),us.length=ps.length->bindArgs (W.fnOf x x (jdj st) (jbp st) (jae st) .none kV doc pm an cdv ct) ⟨us,[]⟩=pure (ps.zip us))
  (a:W.nsIn K mainGlobals x=some (some (.ref f))) (l:K.lookup f=some ⟨oc,od,.func (W.fnOf x x (jdj st) (jbp st) (jae st) .none kV doc pm an cdv ct),osl⟩)
  (c:W.codeIn K cdv x=true) (k:W.keepIn K (.ref f)=true):jbh K mg x st ps:=by
 have F:=jB2 (st:=st) l c k;exact⟨f,_,W.mg_of X G a,F,F.binds hb⟩
theorem jte{st:Stmt}{x:Str}{f:Addr}(hf:jbh K mg "law" st [x])(hm:mg "law"=some (.ref f))
  (hb:∀ (kV doc pm:Value) (an:Option Addr) (cdv ct:Value) (s:Shared) (u:Value),BindsTo s (W.fnOf "law" "law" (jdj st) (jbp st) (jae st) .none kV doc pm an cdv ct) ⟨[u],[]⟩ [(x,u)]) :
  ∃ fd,Fun K "law" "law" st f fd/\∀ (s:Shared) (u:Value),BindsTo s fd ⟨[u],[]⟩ [(x,u)]:=by
 obtain⟨f',fd,hm',F,_⟩:=hf;rw[hm] at hm';cases hm';refine⟨fd,F,fun s u=>?_⟩;obtain⟨oc,od,kV,doc,pm,an,cdv,ct,osl,rfl,lk,hcd⟩:=F.ex;exact hb kV doc pm an cdv ct s u
end
noncomputable def ja2(m:List D->M D)(fl:DSt->M (List D)):DSt->M D:=fun Y=>(fl Y).b m
section
variable {X:Cx}{O:List Nat}{E:XK}{e:Expr}{es:List Expr}{fl:DSt->M (List D)}{pos p:Pos}{x:Str}{k n:Nat}{m:List D->M D}
theorem jam(C:Cal X.prog X.w X.K X.mg X.base k x n m)(hr:Room k X.A)(ha:DA X O E (e::es) fl)(hg:autoParam (Gl X x) zau2._auto_1)(hdb:autoParam (qj x) zau1._auto_1)(he:autoParam (starEach (e::es) X.env=(false,eval e X.env)::starEach es X.env) zau2._auto_1)
  (hpl:autoParam ((backTo pos (starEach es X.env)).any (·.1)=false) zau2._auto_1):DE X O E (.Call (.Name x p) (e::es) [] pos) (ja2 m fl):=by
 obtain⟨f,fd,ps,hl,hm,hk,hb,F⟩:=C.ex;rintro U s Z H Q I ⟨J,Hz,G,Y,r,R,hf,h⟩;refine jpw F hr hg hm hk hb .nil (fun _ _ _ _ _ _ _ z=>z.elim) ha hdb he hpl U s Z H Q I (E:=E) ?_;rcases M.b_inv hf with ⟨ds,e1,hf⟩|⟨y,e1,rfl⟩
 ·refine⟨J,Hz,G,Y,.ok ds,R,e1,fun vs H1 s1 r1=>?_⟩;show spD X.K n m (vs++[]) H1 Q E;rw[List.append_nil];refine⟨by rw[r1.length];exact C.ar ds r hf,J,ds,r,fob G Z O,fun b hb z=>?_,r1,hf,?_⟩
  ·rw[(R.mono s1).fresh z] at hb;cases hb
  ·cases r with
   | ok d=>exact fun v H' s' rv=>h v H' (s1.trans s') rv
   | error y=>exact fun c dx H' s' xr=>h c dx H' (R.same.trans (s1.trans s')) xr
 ·exact⟨J,Hz,G,Y,.error y,R,e1,h⟩
end
theorem hu30{A:Around}{k:Nat}(hr:Room k A):A.units+30<cLine:=Nat.lt_of_le_of_lt (Nat.add_le_add_left (by decide:30<=64) _) hr.units
theorem jdx:bootBuiltins "len"=some (.builtin "len"):=by decide +kernel
theorem jsq:bootBuiltins "sum"=some (.builtin "sum"):=by decide +kernel
theorem jsp:bootBuiltins "abs"=some (.builtin "abs"):=by decide +kernel
theorem jdo:bootBuiltins "isinstance"=some (.builtin "isinstance"):=by decide +kernel
theorem jee:bootBuiltins "tuple"=some (.type "tuple"):=by decide +kernel
theorem jo6:bootBuiltins "list"=some (.type "list"):=by decide +kernel
theorem jBa:bootBuiltins "int"=some (.type "int"):=by decide +kernel
theorem jyq:bootBuiltins "bool"=some (.type "bool"):=by decide +kernel
theorem jvl:bootBuiltins "range"=some (.type "range"):=by decide +kernel
theorem jxr:bootBuiltins "any"=some (.builtin "any"):=by decide +kernel
theorem jA9:bootBuiltins "all"=some (.builtin "all"):=by decide +kernel
noncomputable def gCat:D->D->Option D
 | .int i,.int j=>some (.int (i+j))
 | .str x,.str y=>if x.length+y.length<=sizeLine then some (.str (x++y)) else none
 | .lst xs,.lst ys=>if xs.length+ys.length<=sizeLine then some (.lst (xs++ys)) else none
 | .tup xs,.tup ys=>if xs.length+ys.length<=sizeLine/\xs≠[]/\ys≠[] then some (.tup (xs++ys)) else none
 | _,_=>none
def jAe(K:W.Frag):R2:=fun x y H Q=>∃ l b xs zs,x=.ref l/\y=.ref b/\SqL K H l xs/\SqL K H b zs/\xs.length+zs.length<=sizeLine/\∀ p,H p=none->Q (.ref p) (upd H p (.lst (xs++zs)))
section
variable {X:Cx}{O:List Nat}{E:XK}{b e:Expr}{fa fb:DSt->M D}{fl:DSt->M (List D)}{pos:Pos}
theorem op_catQ:OpR X (binaryOp .Add) (jAe X.K):=by
 intro U s Z H x y v u Q I rx ry h;obtain⟨l,b,xs,zs,rfl,rfl,hH,hB,hz,q⟩:=h;cases rx;cases ry;obtain⟨its,r,⟨⟨cls,dd,data,sl⟩,n,ho,hc,_,hd⟩,_⟩:=I.list hH;obtain⟨its2,r2,⟨⟨cls2,dd2,data2,sl2⟩,n2,ho2,hc2,_,hd2⟩,_⟩:=I.list hB;simp only at hc hd hc2 hd2;subst hc hd hc2 hd2;have l1:=r.length;have l2:=r2.length;have ea:its.toArray++its2.toArray=(its++its2).toArray:=by simp
 refine concat_meets ⟨_,ho,rfl⟩ ⟨_,ho2,rfl⟩ noFill_list_add seq_list_add PySem.F.slot_list_add PySem.F.entry_list_add (PySem.F.args_list_add_2 _ _) (PyProof.Rows.list_addW l b its.toArray its2.toArray n n2 dd dd2 sl sl2 (by simp only[zby];omega)) ⟨ho,ho2,?_⟩;rw[ea];exact⟨.ref _,_,I.lnew (t':=s.toks) (r.append r2) (by rw[zdb];omega),rfl,q _ I.fresh⟩
theorem ja0:OpR X (binaryOp .Add) (fun x y H Q=>(rI0 (fun i j=>.int (i+j)) x y H Q\/∃ i j,x=.str i/\y=.str j/\i.length+j.length<=sizeLine/\Q (.str (i++j)) H)\/jAe X.K x y H Q\/jAf X.K x y H Q):=op_addD.or (op_catQ.or jzw)
theorem ja1:OpD X.K gCat (fun x y H Q=>(rI0 (fun i j=>.int (i+j)) x y H Q\/∃ i j,x=.str i/\y=.str j/\i.length+j.length<=sizeLine/\Q (.str (i++j)) H)\/jAe X.K x y H Q\/jAf X.K x y H Q):=by
 intro x y d hd J H G u v Q hG ru rv k;unfold gCat at hd
 split at hd
 ·cases hd;exact .inl (.inl ⟨_,_,rep_int.mp ru,rep_int.mp rv,k _ H (Same.refl H) (rep_int.mpr rfl)⟩)
 ·split at hd
  ·rename_i hz;cases hd;exact .inl (.inr ⟨_,_,rep_str.mp ru,rep_str.mp rv,hz,k _ H (Same.refl H) (rep_str.mpr rfl)⟩)
  ·cases hd
 ·split at hd
  ·rename_i hz;cases hd;obtain⟨l,xs,rfl,q1,q2⟩:=rep_lst.mp ru;obtain⟨m,ys,rfl,p1,p2⟩:=rep_lst.mp rv;exact .inr (.inl ⟨l,m,xs,ys,rfl,rfl,jdi jao q1,jdi jao p1,by rw[q2.length,p2.length];exact hz,fun p hp=>k _ _ (jax hp) (jfl hp (hG p hp) (q2.append p2))⟩)
  ·cases hd
 ·split at hd
  ·rename_i hz;cases hd;obtain⟨l,xs,rfl,q1,q2⟩:=rep_tup.mp ru;obtain⟨m,ys,rfl,p1,p2⟩:=rep_tup.mp rv;have n1:xs≠[]:=fun z=>by have:=q2.length;rw[z] at this;exact hz.2.1 (List.length_eq_zero_iff.mp this.symm)
   have n2:ys≠[]:=fun z=>by have:=p2.length;rw[z] at this;exact hz.2.2 (List.length_eq_zero_iff.mp this.symm)
   exact .inr (.inr ⟨l,m,xs,ys,rfl,rfl,jdl jao q1,jdl jao p1,n1,by rw[q2.length,p2.length];exact hz.1,fun z=>absurd z n2,fun _ p hp=>k _ _ (jax hp) (jb4 hp (hG p hp) (q2.append p2))⟩)
  ·cases hd
 ·cases hd
def fRep(fl:DSt->M (List D))(fb:DSt->M D):DSt->M D:=fun Y=>(fl Y).b fun xs=>if xs.length<=sizeLine then (fb Y).b fun y=>match y with
  | .int k=>if -(2 ^ 63)<=k/\k<2 ^ 63/\xs.length*k.toNat<=sizeLine then M.p (.lst (List.replicate k.toNat xs).flatten) else none
  | _=>none
 else none
theorem Reps.rep{J:Rho}{K:W.Frag}{H:Hp}{ds:List D}{vs:List V}(h:Reps J K H ds vs):∀ k:Nat,Reps J K H (List.replicate k ds).flatten (List.replicate k vs).flatten
 | 0=>Reps.nil
 | k+1=>by rw[List.replicate_succ,List.flatten_cons,List.replicate_succ,List.flatten_cons];exact h.append (Reps.rep h k)
inductive tOD(K:W.Frag)(O:List Nat)(E:XK)(f:DSt->M (Option Int))(Z:St)(H:Hp)(Q:Option Int->Hp->Prop):Prop
 | mk (J:Rho) (Hz:Hp) (F:qf) (Y:DSt) (r:Except XD (Option Int)) (R:RS J K Hz H F O Z Y) (hf:f Y=some r) (k:match (generalizing:=false) r with
  | .ok o=>∀ H',Same H H'->Q o H'
  | .error x=>okX K Hz E x)
def DO(X:Cx)(O:List Nat)(E:XK)(e:Option Expr)(f:DSt->M (Option Int)):Prop:=PO X e (tOD X.K O E f)
def jry:DSt->M (Option Int):=fun _=>M.p none
noncomputable def intD:D->Option (Option Int)
 | .int i=>some (some i)
 | _=>none
def jrz(f:DSt->M D):DSt->M (Option Int):=fun Y=>(f Y).b fun d=>M.o (intD d)
theorem js7:DO X O E none jry:=by
 rintro U s Z H Q I ⟨J,Hz,F,Y,r,R,hf,k⟩;cases hf;exact jz8 U s Z H Q I (k H (Same.refl H))
theorem js8(h:DE X O E e fa):DO X O E (some e) (jrz fa):=by
 rintro U s Z H Q I ⟨J,Hz,F,Y,r,R,hf,k⟩;refine jz9 h U s Z H Q I ?_;rcases M.b_inv hf with ⟨x,e1,hf⟩|⟨x,e1,rfl⟩
 ·refine⟨J,Hz,F,Y,.ok x,R,e1,fun v H1 s1 r1=>?_⟩;obtain⟨o,ho,rfl⟩:=M.o_inv hf
  cases x with
  | int i=>cases ho;exact⟨i,rep_int.mp r1,k H1 s1⟩
  | _=>cases ho
 ·exact⟨J,Hz,F,Y,.error x,R,e1,k⟩
def cutL{α:Type}(xs:List α)(lo hi:Option Int):List α:=(xs.drop (HT.sIx xs.length 0 lo)).take (HT.sIx xs.length xs.length hi-HT.sIx xs.length 0 lo)
def cutD:D->Option Int->Option Int->Option D
 | .lst ds,lo,hi=>some (.lst (cutL ds lo hi))
 | .tup ds,lo,hi=>if HT.sIx ds.length 0 lo=0/\HT.sIx ds.length ds.length hi=ds.length then none else some (.tup (cutL ds lo hi))
 | .str x,lo,hi=>if x.length<=sizeLine then some (.str (Txt.slice x lo hi)) else none
 | _,_,_=>none
def rSlS:V->Option Int->Option Int->Hp->VK->Prop:=fun x lo hi H Q=>∃ z,x=.str z/\z.length<=sizeLine/\Q (.str (Txt.slice z lo hi)) H
theorem jEf:SlR X rSlS:=by
 intro U s Z H x v vl vu lo hi sl Q I rx hs pl pu h;obtain⟨z,rfl,hz,q⟩:=h;obtain⟨t,rfl⟩:=rx;have fin:∀ {l u:Option (Int×Tok)},l.map (·.1)=lo->u.map (·.1)=hi->s.heap.IsSlice sl l u none->wpAny (model X.prog X.w) X.A (getItem (.str z t) (.ref sl)) (EP X U Z Q) X.xe s:=fun {l u} e1 e2 h=>by
  refine wpAny_getItem_str_slice (l:=l) (u:=u) (st:=none) h rfl ?_;have hw:∀ t' k,EP X U Z Q (.str (Txt.slice z lo hi) t') { s with toks:=k }:=fun t' k=>⟨.str (Txt.slice z lo hi),H,I.tok _,⟨_,rfl⟩,q⟩
  rw[<- e1,<- e2] at hw;exact post_val_or_str ⟨zez (Txt.slice_le z _ _) hz,hw⟩
 obtain⟨os,ho,hc,hd⟩:=hs;refine⟨"str",_,PySem.F.slot_str_getitem.lookup,typeIs_str _ _ _,?_⟩
 cases pl with
 | none=>cases pu with
  | none=>exact fin (l:=none) (u:=none) rfl rfl ⟨os,ho,hc,hd⟩
  | int j tj=>exact fin (l:=none) (u:=some (j,tj)) rfl rfl ⟨os,ho,hc,hd⟩
 | int i ti=>cases pu with
  | none=>exact fin (l:=some (i,ti)) (u:=none) rfl rfl ⟨os,ho,hc,hd⟩
  | int j tj=>exact fin (l:=some (i,ti)) (u:=some (j,tj)) rfl rfl ⟨os,ho,hc,hd⟩
theorem Reps.take{J:Rho}{K:W.Frag}{H:Hp}:∀ {ds:List D} {vs:List V} (n:Nat),Reps J K H ds vs->Reps J K H (ds.take n) (vs.take n)
 | _,_,0,_=>by simp;exact Reps.nil
 | [],_,n+1,h=>by rw[reps_nil.mp h];exact Reps.nil
 | d::ds,_,n+1,h=>by
  obtain⟨v,r,rfl,q,t⟩:=reps_cons.mp h;exact Reps.cons q (Reps.take n t)
theorem Reps.drop{J:Rho}{K:W.Frag}{H:Hp}:∀ {ds:List D} {vs:List V} (n:Nat),Reps J K H ds vs->Reps J K H (ds.drop n) (vs.drop n)
 | _,_,0,h=>h
 | [],_,n+1,h=>by rw[reps_nil.mp h];exact Reps.nil
 | d::ds,_,n+1,h=>by
  obtain⟨v,r,rfl,q,t⟩:=reps_cons.mp h;exact Reps.drop n t
theorem Reps.cut{J:Rho}{K:W.Frag}{H:Hp}{ds:List D}{vs:List V}(h:Reps J K H ds vs)(lo hi:Option Int):Reps J K H (cutL ds lo hi) (cutV vs lo hi):=by
 unfold cutL cutV;rw[h.length];exact (h.drop _).take _
def fSl(fa:DSt->M D)(fl fh:DSt->M (Option Int)):DSt->M D:=fun Y=>(fa Y).b fun x=>(fl Y).b fun lo=>(fh Y).b fun hi=>M.o (cutD x lo hi)
theorem jqk{lo hi:Option Expr}{fl fh:DSt->M (Option Int)}{p2:Pos}(ha:DE X O E e fa)(hl:DO X O E lo fl)(hh:DO X O E hi fh):DE X O E (.Subscript e (.Slice lo hi none p2) pos) (fSl fa fl fh):=by
 rintro U s Z H Q I ⟨J,Hz,F,Y,r,R,hf,k⟩;refine jwx (sl_list.or (sl_tup.or jEf)) ha hl hh U s Z H Q I ?_;rcases M.b_inv hf with ⟨x,e1,hf⟩|⟨x,e1,rfl⟩
 ·refine⟨J,Hz,F,Y,.ok x,R,e1,fun v H1 s1 r1=>?_⟩;rcases M.b_inv hf with ⟨l,e2,hf⟩|⟨y,e2,rfl⟩
  ·refine⟨J,Hz,F,Y,.ok l,R.mono s1,e2,fun H2 s2=>?_⟩;rcases M.b_inv hf with ⟨h,e3,hf⟩|⟨y,e3,rfl⟩
   ·refine⟨J,Hz,F,Y,.ok h,R.mono (s1.trans s2),e3,fun H3 s3=>?_⟩;obtain⟨d,hd,rfl⟩:=M.o_inv hf;have r3:=r1.mono (jan (s2.trans s3));have R3:=R.mono (s1.trans (s2.trans s3));have sm:=s1.trans (s2.trans s3)
    cases x with
    | lst ds =>
     cases hd;obtain⟨q,xs,rfl,q2,q3⟩:=rep_lst.mp r3;exact .inl ⟨q,xs,rfl,jdi jao q2,fun p hp=>k _ _ (sm.trans (jax hp)) (jfl hp (R3.fresh hp) (q3.cut l h))⟩
    | tup ds =>
     have hd':(if HT.sIx ds.length 0 l=0/\HT.sIx ds.length ds.length h=ds.length then none else some (D.tup (cutL ds l h)))=some d:=hd
     split at hd'
     ·cases hd'
     ·rename_i hn;cases hd';obtain⟨q,xs,rfl,q2,q3⟩:=rep_tup.mp r3;exact .inr (.inl ⟨q,xs,rfl,jdl jao q2,by rw[q3.length];exact hn,fun p hp=>k _ _ (sm.trans (jax hp)) (jb4 hp (R3.fresh hp) (q3.cut l h))⟩)
    | str z =>
     have hd':(if z.length<=sizeLine then some (D.str (Txt.slice z l h)) else none)=some d:=hd
     split at hd'
     ·rename_i hz;cases hd';exact .inr (.inr ⟨z,rep_str.mp r3,hz,k _ _ sm (rep_str.mpr rfl)⟩)
     ·cases hd'
    | _=>cases hd
   ·exact⟨J,Hz,F,Y,.error y,R.mono (s1.trans s2),e3,k⟩
  ·exact⟨J,Hz,F,Y,.error y,R.mono s1,e2,k⟩
 ·exact⟨J,Hz,F,Y,.error x,R,e1,k⟩
noncomputable def jjk:D->Bool
 | .non=>true
 | .bl _=>true
 | .int _=>true
 | .str _=>true
 | _=>false
def inD(x:D)(ds:List D):Bool:=ds.any fun y=>eqB y x
def gIn:D->D->Option D:=fun x y=>match seqD y with
 | some ds=>if (jjk x&&ds.all jjk)=true then some (.bl (inD x ds)) else none
 | none=>none
theorem jqo{J:Rho}{K:W.Frag}{H:Hp}{d:D}{v:V}(h:jjk d=true)(r:Rep J K H d v):jli v=true:=by
 cases d with
 | non=>cases rep_non.mp r;rfl
 | bl _=>cases rep_bl.mp r;rfl
 | int _=>cases rep_int.mp r;rfl
 | str _=>cases rep_str.mp r;rfl
 | _=>cases h
theorem jy1{J:Rho}{K:W.Frag}{H:Hp}{d e:D}{v u:V}(h:jjk d=true)(h2:jjk e=true)(r:Rep J K H d v)(r2:Rep J K H e u):eqV v u=eqB d e:=by
 cases d with
 | non=>cases rep_non.mp r;(cases e with
  | non=>cases rep_non.mp r2;unfold eqB;rfl
  | bl _=>cases rep_bl.mp r2;unfold eqB;rfl
  | int _=>cases rep_int.mp r2;unfold eqB;rfl
  | str _=>cases rep_str.mp r2;unfold eqB;rfl
  | _=>cases h2)
 | bl _=>cases rep_bl.mp r;(cases e with
  | non=>cases rep_non.mp r2;unfold eqB;rfl
  | bl _=>cases rep_bl.mp r2;unfold eqB;rfl
  | int _=>cases rep_int.mp r2;unfold eqB;rfl
  | str _=>cases rep_str.mp r2;unfold eqB;rfl
  | _=>cases h2)
 | int _=>cases rep_int.mp r;(cases e with
  | non=>cases rep_non.mp r2;unfold eqB;rfl
  | bl _=>cases rep_bl.mp r2;unfold eqB;rfl
  | int _=>cases rep_int.mp r2;unfold eqB;rfl
  | str _=>cases rep_str.mp r2;unfold eqB;rfl
  | _=>cases h2)
 | str _=>cases rep_str.mp r;(cases e with
  | non=>cases rep_non.mp r2;unfold eqB;rfl
  | bl _=>cases rep_bl.mp r2;unfold eqB;rfl
  | int _=>cases rep_int.mp r2;unfold eqB;rfl
  | str _=>cases rep_str.mp r2;unfold eqB;rfl
  | _=>cases h2)
 | _=>cases h
theorem jxz{J:Rho}{K:W.Frag}{H:Hp}{x:D}{v:V}(hx:jjk x=true)(rx:Rep J K H x v):∀ {ds:List D} {vs:List V},ds.all jjk=true->Reps J K H ds vs->vs.all jli=true/\inV v vs=inD x ds
 | [],_,_,h=>by rw[reps_nil.mp h];exact⟨rfl,rfl⟩
 | d::ds,_,ha,h=>by
  obtain⟨u,r,rfl,q,t⟩:=reps_cons.mp h;rw[List.all_cons,Bool.and_eq_true] at ha;obtain⟨i1,i2⟩:=jxz hx rx ha.2 t;refine⟨by rw[List.all_cons,jqo ha.1 q,i1];rfl,?_⟩;unfold inV inD at i2 |-
  rw[List.any_cons,List.any_cons,jy1 ha.1 hx q rx,i2]
theorem jDd:OpD X.K gIn (rIn X.K false):=by
 intro x y d hd J H G u v Q hG ru rv k;unfold gIn at hd
 split at hd
 ·rename_i ds hs
  split at hd
  ·rename_i hz;cases hd;rw[Bool.and_eq_true] at hz;obtain⟨kk,l,xs,rfl,q1,q2⟩:=jq8 hs rv;obtain⟨i1,i2⟩:=jxz hz.1 ru hz.2 q2;refine⟨l,xs,rfl,?_,jqo hz.1 ru,i1,k _ H (Same.refl H) (rep_bl.mpr (by rw[i2];rfl))⟩
   cases kk with
   | true=>exact .inr (jdl jao (sqv_t.mp q1))
   | false=>exact .inl (jdi jao (sqv_l.mp q1))
  ·cases hd
 ·cases hd
noncomputable def scalD:D->Bool
 | .non=>true
 | .bl _=>true
 | .int _=>true
 | .str _=>true
 | .ty _=>true
 | .obj _=>true
 | _=>false
def gAug(i:Nat)(g:D->D->Option D)(f:DSt->M D):DSt->M Out:=fun Y=>(M.o (Y[i]?).join).b fun x=>(f Y).b fun y=>(M.o (g x y)).b fun d=>M.p (.nx (Y.set i (some d)))
end
theorem Reps.set{J:Rho}{K:W.Frag}{H:Hp}{d:D}{v:V}(hr:Rep J K H d v):∀ {ds:List D} {vs:List V} (j:Nat),Reps J K H ds vs->Reps J K H (ds.set j d) (vs.set j v)
 | [],_,j,h=>by rw[reps_nil.mp h];exact Reps.nil
 | e::ds,_,0,h=>by
  obtain⟨u,r,rfl,q,t⟩:=reps_cons.mp h;exact Reps.cons hr t
 | e::ds,_,j+1,h=>by
  obtain⟨u,r,rfl,q,t⟩:=reps_cons.mp h;exact Reps.cons q (Reps.set hr j t)
section
variable {X:Cx}{O B:List Nat}{E:XK}{a b e:Expr}{fa fb:DSt->M D}{fl:DSt->M (List D)}{pos:Pos}
def jtf(i:Nat)(fi fv:DSt->M D):DSt->M Out:=fun Y=>(fv Y).b fun d=>(fi Y).b fun k=>match (Y[i]?).join,k with
 | some (.lst ds),.int k=>match ixN ds.length k with
  | some j=>M.p (.nx (Y.set i (some (.lst (ds.set j d)))))
  | none=>none
 | _,_=>none
theorem jv2{i:Nat}{x:Str}{ix:Expr}{p1 p2:Pos}(ho:O.contains i=true)(hix:DE X O E ix fb)(he:DE X O E e fa)(hi:autoParam (X.N[i]? = some x) zau2._auto_1)(hv:autoParam (Vis X.env.scope x) zau4._auto_1)
  (hd:autoParam (qj x) zau1._auto_1) (hcd:autoParam ((x == ("__classdict__":Str))=false) zau1._auto_1)
  (ha:∀ v,assign (.Subscript (.Name x p1) ix p2) X.env v=(do
   let ov <- holding [v] (eval (.Name x p1) X.env)
   let iv <- holding [v,ov] (eval ix X.env)
   standAt p2
   holding [v,ov,iv] (setItem ov iv v)
   release [v,ov,iv] []):=by intro _;rfl)
  (hs:autoParam (swapsWithSole [.Subscript (.Name x p1) ix p2] e pos.line X.env=pure false) zau2._auto_1) (hw:autoParam (swappedStores [.Subscript (.Name x p1) ix p2] e X.env=pure none) zau2._auto_1)
  (h1:autoParam ((assignEach [.Subscript (.Name x p1) ix p2] X.env).map (·.2)=[assign (.Subscript (.Name x p1) ix p2) X.env]) zau2._auto_1):DS X O O B E (.Assign [.Subscript (.Name x p1) ix p2] e pos) (jtf i fb fa):=by
 rintro U s Z H Dn I ⟨J,Hz,F,Y,r,R,hg,k⟩;have ho':i∈O:=zcx.mp ho;refine jyd he (jDo (jlz hi hv hd hcd) hix jw8 ha) hs hw h1 U s Z H Dn I ?_;rcases M.b_inv hg with ⟨d,e1,hg⟩|⟨y,e1,rfl⟩
 ·refine⟨J,Hz,F,Y,.ok d,R,e1,fun v H1 s1 r1=>?_⟩;obtain⟨l,xs0,ds0,q1,q2,q3,q4,q5⟩:=(R.mono s1).own i ho';refine⟨.ref l,q2,?_⟩;rcases M.b_inv hg with ⟨kk,e2,hg⟩|⟨y,e2,rfl⟩
  ·refine⟨J,Hz,F,Y,.ok kk,R.mono s1,e2,fun w H2 s2 r2=>?_⟩;have R2:=R.mono (s1.trans s2);obtain⟨l',xs,ds,p1,p2,p3,p4,p5⟩:=R2.own i ho';rw[q2] at p2;cases p2
   rw[q1] at p1;cases p1
   have hj:(Y[i]?).join=some (.lst ds0):=by rw[q1];rfl
   rw[hj] at hg
   cases kk with
   | int n =>
    dsimp only at hg
    cases hjx:ixN ds0.length n with
    | none=>rw[hjx] at hg;cases hg
    | some j =>
     rw[hjx] at hg;cases hg;refine⟨l,xs,n,j,rfl,rep_int.mp r2,p3,by rw[p5.length];exact hjx,?_⟩;refine k Z _ ?_ (R2.write ho' q2 (p5.set (r1.mono (jan s2)) j));rw[jc1 (fob_t.mpr (.inr ⟨i,ho',q2⟩))];exact jan (s1.trans s2)
   | _=>cases hg
  ·exact⟨J,Hz,F,Y,.error y,R.mono s1,e2,k⟩
 ·exact⟨J,Hz,F,Y,.error y,R,e1,k⟩
def gAsg(h:D->DSt->Option DSt)(f:DSt->M D):DSt->M Out:=fun Y=>(f Y).b fun d=>match h d Y with
 | some Y'=>M.p (.nx Y')
 | none=>none
theorem jBh{tg:Expr}{h:D->DSt->Option DSt}(he:DE X O E e fa)(hg:DG X O tg h)(hs:autoParam (swapsWithSole [tg] e pos.line X.env=pure false) zau2._auto_1)(hw:autoParam (swappedStores [tg] e X.env=pure none) zau2._auto_1)
  (h1:autoParam ((assignEach [tg] X.env).map (·.2)=[assign tg X.env]) zau2._auto_1):DS X O O B E (.Assign [tg] e pos) (gAsg h fa):=by
 rintro U s Z H Dn I ⟨J,Hz,F,Y,r,R,hgg,k⟩;refine jyd he hg hs hw h1 U s Z H Dn I ?_;rcases M.b_inv hgg with ⟨d,e1,hgg⟩|⟨y,e1,rfl⟩
 ·refine⟨J,Hz,F,Y,.ok d,R,e1,fun v H1 s1 r1=>?_⟩
  cases e2:h d Y with
  | none=>rw[e2] at hgg;cases hgg
  | some Y' =>
   rw[e2] at hgg;cases hgg;exact⟨J,Hz,F,Y,d,Y',R.mono s1,r1,e2,fun Z' ef R'=>k Z' H1 (by rw[ef];exact jan s1) R'⟩
 ·exact⟨J,Hz,F,Y,.error y,R,e1,k⟩
noncomputable def jFt(i j l:Nat):D->DSt->Option DSt:=fun d Y=>match d with
 | .tup [x,y,z]=>some (((Y.set i (some x)).set j (some y)).set l (some z))
 | _=>none
def gPar(i j:Nat)(fl:DSt->M (List D)):DSt->M Out:=fun Y=>(fl Y).b fun ds=>match ds with
 | [x,y]=>M.p (.nx ((Y.set i (some x)).set j (some y)))
 | _=>none
theorem jBk{i j:Nat}{x y:Str}{px py pt:Pos}{kt k2 pt2}(hc:X.calm=true)(hN:X.N.Nodup)(hij:i≠j)(ha:DA X O E [a,b] fl)(ho:autoParam (O.contains i=false) zau2._auto_1)(ho2:autoParam (O.contains j=false) zau2._auto_1)(hi:autoParam (X.N[i]? = some x) zau2._auto_1)(hj:autoParam (X.N[j]? = some y) zau2._auto_1)
  (hx:autoParam (X.env.scope.names.lookup x=some .local) zau2._auto_1) (hy:autoParam (X.env.scope.names.lookup y=some .local) zau2._auto_1)
  (hw:autoParam (swappedStores [.Tuple [.Name x px,.Name y py] kt pt] (.Tuple [a,b] k2 pt2) X.env=pure (some [x,y])) zau2._auto_1)
  (hs:autoParam (swapsWithSole [.Tuple [.Name x px,.Name y py] kt pt] (.Tuple [a,b] k2 pt2) pos.line X.env=pure false) zau2._auto_1):DS X O O B E (.Assign [.Tuple [.Name x px,.Name y py] kt pt] (.Tuple [a,b] k2 pt2) pos) (gPar i j fl):=by
 rintro U s Z H Dn I ⟨J,Hz,F,Y,r,R,hgg,k⟩;have ho':i∉O:=fun z=>by rw[zcx.mpr z] at ho;cases ho
 have ho2':j∉O:=fun z=>by rw[zcx.mpr z] at ho2;cases ho2
 refine jDu hc hN hi hj hij hx hy ha hw hs U s Z H Dn I ?_;rcases M.b_inv hgg with ⟨ds,e1,hgg⟩|⟨z,e1,rfl⟩
 ·refine⟨J,Hz,F,Y,.ok ds,R,e1,fun vs H1 s1 r1=>?_⟩
  split at hgg
  ·rename_i x' y';cases hgg;obtain⟨v,w,rfl,q1,q2⟩:=jD7 r1;refine⟨v,w,rfl,k _ H1 ?_ ?_⟩
   ·rw[jcj ho2',jcj ho'];exact jan s1
   ·exact ((R.mono s1).set ho' q1).set ho2' (by rw[jcj ho'];exact q2)
  ·cases hgg
 ·exact⟨J,Hz,F,Y,.error z,R,e1,k⟩
noncomputable def jFw:List D->Option D
 | [.int i]=>some (.int i)
 | [.bl k]=>some (.int (if k then 1 else 0))
 | [.str x]=>if x.length<=640 then (PySem.intText? x).map .int else none
 | _=>none
end
end DL
namespace L2
open PyProof.Rows
theorem jAq(lo hi st:Int)(h:0<st):0<=Builtin.Range.rangeSize lo hi st:=by
 unfold Builtin.Range.rangeSize;rw[if_pos h]
 split
 ·have:=Int.ediv_nonneg (a:=hi-lo-1) (b:=st) (by omega) (by omega);omega
 ·omega
section
end
end L2
namespace DL
open L2
section
variable {X:Cx}{b e o:Expr}{p:Pos}
noncomputable def jk2(lo:Int)(st:Int)(n:Nat):List D:=(List.range n).map fun i=>.int (lo+(i:Nat)*st)
noncomputable def blsD:List D->Option (List Bool)
 | []=>some []
 | .bl b::ds=>(blsD ds).map (b::·)
 | _::_=>none
theorem jo1:∀ {ds:List D} {ns:List Bool},blsD ds=some ns->ds=ns.map .bl
 | [],_,h=>by cases h;rfl
 | .bl i::ds,ns,h=>by
  unfold blsD at h
  cases e:blsD ds with
  | none=>rw[e] at h;cases h
  | some ms=>rw[e] at h;cases h;rw[jo1 e];rfl
 | .non::_,_,h=>by cases h
 | .int _::_,_,h=>by cases h
 | .str _::_,_,h=>by cases h
 | .ty _::_,_,h=>by cases h
 | .obj _::_,_,h=>by cases h
 | .tup _::_,_,h=>by cases h
 | .lst _::_,_,h=>by cases h
theorem reps_bls{J:Rho}{K:W.Frag}{H:Hp}:∀ {ns:List Bool} {vs:List V},Reps J K H (ns.map .bl) vs↔vs=ns.map V.bl
 | [],vs=>reps_nil
 | n::ns,vs=>by
  rw[List.map_cons,reps_cons];constructor
  ·rintro⟨v,r,rfl,h1,h2⟩;rw[rep_bl.mp h1,reps_bls.mp h2];rfl
  ·rintro rfl;exact⟨_,_,rfl,rep_bl.mpr rfl,reps_bls.mpr rfl⟩
def kAll:List D->Option D
 | [.lst ds]=>(blsD ds).map fun ns=>.bl (ns.all id)
 | _=>none
theorem jsj(ns:List Bool):(List.range ns.length).all (fun i=>ns.getD i true)=ns.all id:=by
 induction ns with
 | nil=>rfl
 | cons n ns ih =>
  rw[List.length_cons,List.range_succ_eq_map,List.all_cons,List.all_map,List.all_cons];congr 1
theorem jss(hc:X.calm=true):CallR X (.builtin "all") (fun xs H Q=>∃ p,∃ ns:List Bool,xs=[.ref p]/\SqL X.K H p (ns.map V.bl)/\Q (.bl (ns.all id)) H):=by
 intro U s Z H xs us Q I r h;obtain⟨p,ns,rfl,hq,q⟩:=h;obtain⟨u,rfl,rx⟩:=r.one;cases rx;obtain⟨its,rv,src,hz⟩:=I.list hq;have hl:=rv.length;rw[zav] at hl;have hh:X.A.in1.handled=none:=I.ok.hd hc;have src':s.heap.IsList p its.toArray:=src.isList;have hp:p<s.heap.objs.size:=by obtain⟨o,e,_⟩:=src';exact zbw e
 refine call_all_walk ?_;refine wpAny_pyIter_list src' ?_;refine⟨_,_,_,_,_,_,(fun i=>ns.getD i true),rfl,Walks.list hh s.heap.objs.size p (zcb hp) its.toArray,⟨⟨_,zbv _ rfl,rfl,rfl⟩,src'.at fun o e=>zaz _ e⟩,fun i v s' Q' E' hP hQ=>?_,fun h' tk kp=>?_⟩
 ·have e:its.toArray[i]? = some v:=hP;have hi:i<ns.length:=by rw[hl];have:=(Array.getElem?_eq_some_iff.mp e).1;simpa using this
  obtain⟨v',e1,r1⟩:=rv.get (i:=i) (x:=.bl ns[i]) (by rw[zbb,zax hi];rfl);have:v=v':=by
   have e':its[i]? = some v:=by simpa using e
   rw[e'] at e1;exact zbz e1
  subst this;have r1':v=.bool ns[i]:=r1;subst r1';refine wpAny_truthy_bool ?_;dsimp only at hQ;rw[zbx,zax hi] at hQ;exact hQ
 ·refine⟨.bl (ns.all id),H,I.kept fun b o e=>kp b o ?_ (zaz _ e),?_,q⟩
  ·intro z;have:b=s.heap.objs.size:=by simpa using z
   rw[this] at e;exact absurd (zbw e) (Nat.lt_irrefl _)
  ·have:its.toArray.size=ns.length:=by rw[zby];omega
   rw[this,jsj];rfl
theorem jyr:CaD X.K kAll (fun xs H Q=>∃ p,∃ ns:List Bool,xs=[.ref p]/\SqL X.K H p (ns.map V.bl)/\Q (.bl (ns.all id)) H):=by
 intro xs d hd J H G us Q hG ru k;unfold kAll at hd
 split at hd
 ·rename_i ds
  cases e:blsD ds with
  | none=>rw[e] at hd;cases hd
  | some ns =>
   rw[e] at hd;cases hd;obtain⟨v,rfl,q⟩:=ji0 ru;obtain⟨l,ys,rfl,q1,q2⟩:=rep_lst.mp q;rw[jo1 e] at q2;rw[reps_bls.mp q2] at q1;exact⟨l,ns,rfl,jdi jao q1,k _ H (Same.refl H) (rep_bl.mpr rfl)⟩
 ·cases hd
end
end DL
namespace L2
open PyProof.Rows
theorem jjl:fillsNumberSlot (.type "tuple") "mul"=pure false :=
 PySem.fillsNumberSlot_seq (id:="tuple.__mul__") (r:=some (.builtin "tuple.__rmul__")) PySem.F.slot_tuple_mul.lookup (by decide +kernel) PySem.F.slot_tuple_rmul.lookup (by decide +kernel)
theorem jom:seqRepeat? (.type "tuple")=pure (some (.builtin "tuple.__mul__")):=by
 unfold seqRepeat?;rw[PySem.seqSlot_of (T:="tuple") (name:="__mul__") (id:="tuple.__mul__") PySem.F.slot_tuple_mul.lookup (by decide +kernel),PySem.seqSlot_of (T:="tuple") (name:="__rmul__") (id:="tuple.__rmul__") PySem.F.slot_tuple_rmul.lookup (by decide +kernel)];rfl
theorem jlk(a:Int)(t:Tok)(l:Addr)(items:Array Value)(n:Nat)(dd:Option Addr)(sl:qg) :
  Meets (Builtin.«int.__rmul__» ⟨[.int a t,.ref l],[]⟩) (fun _ R s=>s.heap.get? l=some { cls:=.type "tuple",dict:=dd,data:=.seq items n,slots:=sl }/\R (.ok (.ret Value.notImplemented)) s) :=
 .of_wp fun prog w A R s h=>by obtain⟨hp,g,d,tk,os⟩:=s;obtain⟨hl,h⟩:=h;wp_walk;exact⟨_,rfl,h⟩
theorem jsc(l:Addr)(items:Array Value)(n:Nat)(u:Tok)(dd:Option Addr)(sl:qg)(hne:items.isEmpty=false) :
  Meets (Builtin.«tuple.__mul__» ⟨[.ref l,.int 1 u],[]⟩) (fun _ R s=>s.heap.get? l=some { cls:=.type "tuple",dict:=dd,data:=.seq items n,slots:=sl }/\R (.ok (.ret (.ref l))) s) :=
 .of_wp fun prog w A R s h=>by
  obtain⟨hp,g,d,tk,os⟩:=s;obtain⟨hl,h⟩:=h
  have f1:=AutoSeq1.idx_int
  wp_walk
  exact⟨_,rfl,h⟩
theorem jsd(l:Addr)(items:Array Value)(n:Nat)(k:Int)(u:Tok)(dd:Option Addr)(sl:qg)(hne:items.isEmpty=false)(h2:2<=k)(h3:k<=1000)(hsz:items.size*k.toNat<=100000) :
  Meets (Builtin.«tuple.__mul__» ⟨[.ref l,.int k u],[]⟩) (fun _ R s=>s.heap.get? l=some { cls:=.type "tuple",dict:=dd,data:=.seq items n,slots:=sl }/\R (.ok (.ret (.ref s.heap.objs.size))) { s with heap:=s.heap.push { cls:=.type "tuple",data:=.seq (List.foldl (fun x1 x2=>x1++x2) #[] (List.replicate k.toNat items)) } }) :=
 .of_wp fun prog w A R s h=>by
  obtain⟨hp,g,d,tk,os⟩:=s;obtain⟨hl,h⟩:=h
  have f1:=AutoSeq1.idx_int;have c1:(decide (k < -(2 ^ 63)) || decide (k >= 2 ^ 63))=false:=by simp;omega
  have c2:(items.isEmpty || k == 1)=false:=by rw[hne];simp;omega
  have c3:(decide (k<=0) || items.isEmpty)=false:=by rw[hne];simp;omega
  obtain⟨m,rfl⟩:=Int.eq_ofNat_of_zero_le (show 0<=k by omega);have hs:(items.size:Int)*(m:Int)=((items.size*m:Nat):Int):=by push_cast;rfl
  have hsz':items.size*m<=100000:=by simpa using hsz
  have c4:¬ ((items.size:Int)*(m:Int) > (2 ^ 63-1) / 8):=by rw[hs];omega
  have c5:Builtin.Tuple.tupleTooMany ((items.size:Int)*(m:Int))=false:=by
   rw[hs];unfold Builtin.Tuple.tupleTooMany;simp[sizeLine];omega
  wp_walk
  refine wpAny_ite_false (decide_eq_false (by rw[c1];decide)) ?_
  wp_walk
  refine wpAny_ite_false (decide_eq_false (by rw[c2];decide)) ?_
  wp_walk
  refine wpAny_ite_false (decide_eq_false (by rw[c3];decide)) ?_
  try dsimp only
  refine wpAny_ite_false (decide_eq_false c4) ?_
  try dsimp only
  refine wpAny_ite_false (decide_eq_false (by rw[c5];decide)) ?_
  try dsimp only
  refine zay ?_;unfold Builtin.Tuple.tupleExact;refine wpAny_newObj_type ?_ ?_
  ·exact zab ⟨_,rfl,h⟩
  ·show (List.foldl (fun x1 x2=>x1++x2) #[] (List.replicate ((m:Nat):Int).toNat items)).size<=sizeLine;rw[AutoListH.size_joined];have:100000<=sizeLine:=by decide
   rw[Nat.mul_comm] at hsz';simp;omega
end L2
namespace DL
open L2
def jD1(K:W.Frag):R2:=fun x y H Q=>∃ l k xs,x=.ref l/\y=.int k/\SqT K H l xs/\xs≠[]/\1<=k/\k<=1000/\xs.length*k.toNat<=100000/\(k=1->Q (.ref l) H)/\(k≠1->∀ p,H p=none->Q (.ref p) (upd H p (.tup (List.replicate k.toNat xs).flatten)))
section
variable {X:Cx}{b e:Expr}
theorem jzx:OpR X (binaryOp .Mult) (jD1 X.K):=by
 intro U s Z H x y v u Q I rx ry h;obtain⟨l,k,xs,rfl,rfl,hH,hne,h1,h2,hz,q1,q2⟩:=h;cases rx;obtain⟨t,rfl⟩:=ry;obtain⟨its,r,⟨⟨cls,dd,data,sl⟩,e,hc,n,hd⟩,_⟩:=I.tuple hH;simp only at hc hd;subst hc hd;have l1:=r.length;have hne':its.toArray.isEmpty=false:=by
  cases its with
  | nil=>exact absurd (List.length_eq_zero_iff.mp l1) hne
  | cons _ _=>rfl
 have hlen:its.toArray.size*k.toNat<=100000:=by rw[zby,<- l1];exact hz
 have hnew:List.foldl (fun x1 x2=>x1++x2) #[] (List.replicate k.toNat its.toArray)=(List.replicate k.toNat its).flatten.toArray:=by
  have:=jkf its k.toNat [];rw[List.nil_append] at this;exact this
 refine wpAny_binaryOp_repeat_ref (T:="tuple") (U:="int") (by decide) ⟨_,e,rfl⟩ (fun s'=>typeIs_int s' k t) jjl F.fills_int_mul F.slot_int_rmul jom F.slot_int_index.lookup
  (call_meets F.slot_int_rmul (typeIs_int s k t) F.entry_int_rmul (F.args_int_rmul_2 _ _) (jlk k t l its.toArray n dd sl)
   ⟨e,rfl,⟨_,e,rfl⟩,?_⟩)
 by_cases hk:k=1
 ·subst hk;exact call_meets F.slot_tuple_mul ⟨_,e,rfl⟩ F.entry_tuple_mul (F.args_tuple_mul_2 _ _) (jsc l its.toArray n t dd sl hne') ⟨e,.ref l,H,I,rfl,q1 rfl⟩
 ·refine call_meets F.slot_tuple_mul ⟨_,e,rfl⟩ F.entry_tuple_mul (F.args_tuple_mul_2 _ _) (jsd l its.toArray n k t dd sl hne' (by omega) h2 hlen) ⟨e,?_⟩;rw[hnew];refine⟨.ref s.heap.objs.size,_,I.laid (t':=s.toks) (o:=.tup (List.replicate k.toNat xs).flatten) (fun b ob q=>zaz _ q) (zac _) ?_,rfl,q2 hk _ (I.hok.fresh (zac _))⟩;refine⟨?_,_,r.rep k.toNat,PyProof.Rows.IsTup.new _ _⟩;rw[jtx,Nat.mul_comm];have:100000<=sizeLine:=by decide
  omega
def jbj:D->D->Option D
 | .tup xs,.int k=>if xs≠[]/\1<=k/\k<=1000/\xs.length*k.toNat<=100000 then some (.tup (List.replicate k.toNat xs).flatten) else none
 | x,y=>gMul x y
def jD0(K:W.Frag):R2:=fun x y H Q=>(rI (fun i j=>(jg8 i&&jg8 j)=true) (fun i j=>.int (i*j)) x y H Q\/∃ z n,x=.str z/\y=.int n/\(z.length<=4096/\-4096<=n/\n<=4096)/\Q (.str (Txt.mul z n)) H)\/jD1 K x y H Q
theorem ja4:OpR X (binaryOp .Mult) (jD0 X.K):=op_mulD.or jzx
theorem jas:OpD X.K jbj (jD0 X.K):=by
 intro x y d hd J H G u v Q hG ru rv k;unfold jbj at hd
 split at hd
 ·split at hd
  ·rename_i hz;cases hd;obtain⟨l,xs,rfl,q1,q2⟩:=rep_tup.mp ru;have n1:xs≠[]:=fun z=>by have:=q2.length;rw[z] at this;exact hz.1 (List.length_eq_zero_iff.mp this.symm)
   refine .inr ⟨l,_,xs,rfl,rep_int.mp rv,jdl jao q1,n1,hz.2.1,hz.2.2.1,by rw[q2.length];exact hz.2.2.2,fun e=>?_,fun _ p hp=>k _ _ (jax hp) (jb4 hp (hG p hp) (q2.rep _))⟩;subst e;refine k _ H (Same.refl H) ?_;simpa using ru
  ·cases hd
 ·exact .inl (jzy (X:=X) x y d hd J H G u v Q hG ru rv k)
end
end DL
namespace L2
open PyProof.Rows
noncomputable abbrev xOb(C:Addr)(od:Option Addr)(vs:Array Value)(sl:qg):Obj:=⟨.ref C,od,.fields vs,sl⟩
def XO(a C:Addr)(od:Option Addr)(f:Bool):HO:=.ext fun h=>∃ vs sl,h.get? a=some (xOb C od vs sl)/\(f=true->vs[1]? = some .none)
inductive XDv(a:Addr)(fs:List (Str×V))(h:Heap):Prop
 | mk (mA:qc) (hn:h.Ns1 a mA) (hr:∀ f,RelO (fs.lookup f) (mA f)) (hw:PySem.Within mA (fs.map (·.1))) (hl:fs.length<=1000)
noncomputable def XDc(a:Addr)(fs:List (Str×V)):HO:=.ext (XDv a fs)
theorem jEx{a C:Addr}{od:Option Addr}{f:Bool}{xs:List V}:XO a C od f≠.tup xs:=fun z=>by unfold XO at z;cases z
theorem jG9{a:Addr}{fs:List (Str×V)}{xs:List V}:XDc a fs≠.tup xs:=fun z=>by unfold XDc at z;cases z
end L2
namespace DL
open L2
inductive SO where
 | ins (c:Str) (fs:List (Str×D))|lst (ds:List D)|tab (x:Str) (l c:Nat) (q:Str)|dct (kvs:List (List Int×D))|exc (c:Str) (j:Option Nat×Bool)|xd (fs:List (Str×D))
abbrev Sto:=List SO
abbrev MS(α:Type):=Sto->Option (Except XD α×Sto)
noncomputable def MS.b{α β:Type}(m:MS α)(f:α->MS β):MS β:=fun Ω=>match m Ω with
 | none=>none
 | some (.error x,Ω')=>some (.error x,Ω')
 | some (.ok a,Ω')=>f a Ω'
noncomputable def MS.p{α:Type}(a:α):MS α:=fun Ω=>some (.ok a,Ω)
noncomputable def MS.l{α:Type}(m:M α):MS α:=fun Ω=>m.map fun r=>(r,Ω)
noncomputable def MS.o{α:Type}(m:Option α):MS α:=fun Ω=>m.map fun r=>(.ok r,Ω)
inductive MS.BInv{α β:Type}(m:MS α)(f:α->MS β)(Ω Ω':Sto)(r:Except XD β):Prop
 | ok (a:α) (Ω1:Sto) (h1:m Ω=some (.ok a,Ω1)) (h2:f a Ω1=some (r,Ω'))
 | err (x:XD) (h1:m Ω=some (.error x,Ω')) (h2:r=.error x)
theorem MS.b_inv{α β:Type}{m:MS α}{f:α->MS β}{Ω Ω':Sto}{r:Except XD β}(h:m.b f Ω=some (r,Ω')):MS.BInv m f Ω Ω' r:=by
 unfold MS.b at h
 cases e:m Ω with
 | none=>rw[e] at h;cases h
 | some p =>
  rw[e] at h;obtain⟨q,Ω1⟩:=p
  cases q with
  | error x=>cases h;exact .err x e rfl
  | ok a=>exact .ok a Ω1 e h
theorem MS.l_inv{α:Type}{m:M α}{Ω Ω':Sto}{r:Except XD α}(h:MS.l m Ω=some (r,Ω')):m=some r/\Ω'=Ω:=by
 unfold MS.l at h
 cases e:m with
 | none=>rw[e] at h;cases h
 | some p=>rw[e] at h;cases h;exact⟨rfl,rfl⟩
theorem MS.o_inv{α:Type}{m:Option α}{Ω Ω':Sto}{r:Except XD α}(h:MS.o m Ω=some (r,Ω')):∃ a,m=some a/\r=.ok a/\Ω'=Ω:=by
 unfold MS.o at h
 cases e:m with
 | none=>rw[e] at h;cases h
 | some p=>rw[e] at h;cases h;exact⟨p,rfl,rfl,rfl⟩
@[simp] theorem MS.b_p{α β:Type}(a:α)(f:α->MS β):(MS.p a).b f=f a:=rfl
def RLe(J J':Rho):Prop:=∀ i a,J i=some a->J' i=some a
theorem RLe.refl(J:Rho):RLe J J:=fun _ _ h=>h
theorem RLe.trans{J J' J'':Rho}(a:RLe J J')(b:RLe J' J''):RLe J J'':=fun i x h=>b i x (a i x h)
section
variable {J J':Rho}{K:W.Frag}{H:Hp}
mutual
theorem Rep.rho(e:RLe J J'):∀ {d:D} {v:V},Rep J K H d v->Rep J' K H d v
 | .non,_,h=>by unfold Rep at h |-;exact h
 | .bl _,_,h=>by unfold Rep at h |-;exact h
 | .int _,_,h=>by unfold Rep at h |-;exact h
 | .str _,_,h=>by unfold Rep at h |-;exact h
 | .ty _,_,h=>by unfold Rep at h |-;exact h
 | .obj _,_,h=>by
  unfold Rep at h |-
  obtain⟨a,q1,q2⟩:=h;exact⟨a,e _ _ q1,q2⟩
 | .tup _,_,h=>by
  unfold Rep at h |-
  obtain⟨a,xs,q1,q2,q3⟩:=h;exact⟨a,xs,q1,q2,Reps.rho e q3⟩
 | .lst _,_,h=>by
  unfold Rep at h |-
  obtain⟨a,xs,q1,q2,q3⟩:=h;exact⟨a,xs,q1,q2,Reps.rho e q3⟩
theorem Reps.rho(e:RLe J J'):∀ {ds:List D} {vs:List V},Reps J K H ds vs->Reps J' K H ds vs
 | [],_,h=>by unfold Reps at h |-;exact h
 | _::_,_,h=>by
  unfold Reps at h |-
  obtain⟨v,vs,q1,q2,q3⟩:=h;exact⟨v,vs,q1,Rep.rho e q2,Reps.rho e q3⟩
end
noncomputable def putD(f:Str)(d:D):List (Str×D)->List (Str×D)
 | []=>[(f,d)]
 | (g,x)::r=>if g=f then (g,d)::r else (g,x)::putD f d r
def Flds(J:Rho)(K:W.Frag)(H:Hp):List (Str×D)->List (Str×V)->Prop
 | [],vs=>vs=[]
 | (f,d)::fs,vs=>∃ v r,vs=(f,v)::r/\Rep J K H d v/\Flds J K H fs r
theorem Flds.mono(e:RLe J J')(s:Same H H'):∀ {fs:List (Str×D)} {vs:List (Str×V)},Flds J K H fs vs->Flds J' K H' fs vs
 | [],_,h=>h
 | (f,d)::fs,_,⟨v,r,q1,q2,q3⟩=>⟨v,r,q1,(q2.rho e).mono s,Flds.mono e s q3⟩
end
inductive InsOk(J:Rho)(S:qf)(K:W.Frag)(mg:qc)(H Hv:Hp)(a:Addr)(c:Str)(fs:List (Str×D)):Prop
 | mk (C dx:Addr) (vfs:List (Str×V)) (h1:mg c=some (.ref C)) (h2:H a=some (.ins C dx vfs)) (h3:H dx=some (.own a)) (h4:S dx=true) (h5:Flds J K Hv fs vfs)
inductive TabOf(K:W.Frag)(mg:qc)(x:Str)(a:Addr):Prop
 | mk (f c bm:Addr) (oc:Value) (od:Option Addr) (fd:FuncData) (osl:qg) (ob:Obj) (h1:mg x=some (.ref f)) (h2:K.lookup f=some ⟨oc,od,.func fd,osl⟩) (h3:fd.code=.ref c) (h4:W.codeHdIn K c a=true)
   (h5:mg "__builtins__"=some (.ref bm)) (h6:bm≠builtinsNs) (h7:K.lookup bm=some ob) (h8:ob.cls=.type "module") (h9:ob.dict=some builtinsNs) (h10:ob.data=.plain)
inductive TabG(Hv:Hp)(l c:Nat)(q:Str)(ps:Array Value):Prop
 | nil (h:ps=#[])
 | one (c':Addr) (o:Obj) (vs:Array Value) (t:Tok) (h:ps=#[rawInt l,rawInt c,.ref c']) (h1:Hv c'=some (.frz o (.own 0))) (h2:o.data=.fields vs) (h3:vs[1]? = some (.str q t))
theorem TabG.mono{Hv Hv':Hp}{l c:Nat}{q:Str}{ps:Array Value}(s:Same Hv Hv'):TabG Hv l c q ps->TabG Hv' l c q ps
 | .nil h=>.nil h
 | .one c' o vs t h h1 h2 h3=>.one c' o vs t h (s _ _ h1) h2 h3
inductive TabOk(K:W.Frag)(mg:qc)(H Hv:Hp)(a:Addr)(x:Str)(l c:Nat)(q:Str):Prop
 | mk (ps:Array Value) (h1:H a=some (.tbl ps)) (h2:TabOf K mg x a) (h3:TabG Hv l c q ps)
inductive ExcOk(J:Rho)(mg:qc)(H:Hp)(a:Addr)(c:Str):Option Nat×Bool->Prop
 | no (f:Bool) (C:Addr) (h1:mg c=some (.ref C)) (h2:H a=some (XO a C none f)):ExcOk J mg H a c (none,f)
 | yes (f:Bool) (j:Nat) (C dx:Addr) (h1:mg c=some (.ref C)) (h2:J j=some dx) (h3:H a=some (XO a C (some dx) f)):ExcOk J mg H a c (some j,f)
theorem ExcOk.mono{J J':Rho}{mg:qc}{H H':Hp}{a:Addr}{c:Str}{j:Option Nat×Bool}(l:∀ i b,J i=some b->J' i=some b)(e:H' a=H a)(h:ExcOk J mg H a c j):ExcOk J' mg H' a c j:=by
 cases h with
 | no f C h1 h2=>exact .no f C h1 (by rw[e];exact h2)
 | yes f j C dx h1 h2 h3=>exact .yes f j C dx h1 (l _ _ h2) (by rw[e];exact h3)
def SOk(J:Rho)(S:qf)(K:W.Frag)(mg:qc)(H Hv:Hp)(a:Addr):SO->Prop
 | .ins c fs=>InsOk J S K mg H Hv a c fs
 | .lst ds=>∃ xs,H a=some (.lst xs)/\Reps J K Hv ds xs
 | .tab x l c q=>TabOk K mg H Hv a x l c q
 | .exc c j=>ExcOk J mg H a c j
 | .xd fs=>∃ vfs,H a=some (XDc a vfs)/\Flds J K Hv fs vfs
 | .dct kvs=>∃ vk:List (List Key×V),H a=some (.dT vk)/\vk.map (·.1)=kvs.map (fun p=>p.1.map Sum.inl)/\Reps J K Hv (kvs.map (·.2)) (vk.map (·.2))
inductive AtOk(J:Rho)(S:qf)(K:W.Frag)(mg:qc)(H Hv:Hp)(i:Nat)(so:SO):Prop
 | mk (a:Addr) (h1:J i=some a) (h2:S a=true) (h3:SOk J S K mg H Hv a so)
def TV(H Hv:Hp):Prop:=∀ b xs,H b=some (.tup xs)->Hv b=some (.tup xs)
theorem jou{H Hv:Hp}{a:Addr}{o:HO}(t:TV H Hv)(ho:∀ xs,o≠.tup xs):TV (upd H a o) Hv:=fun b xs q=>by
 by_cases hb:b=a
 ·subst hb;rw[jaq] at q;cases q;exact absurd rfl (ho xs)
 ·rw[jar hb] at q;exact t b xs q
theorem jvc{H Hv Hv':Hp}(t:TV H Hv)(v:Same Hv Hv'):TV H Hv':=fun b xs q=>v b _ (t b xs q)
theorem jAz{H H':Hp}{F:qf}(t:TV H (hid H F))(fr:∀ b,H b=none->F b=false)(e:Same H H'):TV H' (hid H' F):=fun b xs q=>by
 cases z:H b with
 | none=>exact hid_some.mpr ⟨fr b z,q⟩
 | some o =>
  have:=e b o z;rw[q] at this;cases this;exact jan e b _ (t b xs z)
structure StoOk(J:Rho)(S:qf)(K:W.Frag)(mg:qc)(H Hv:Hp)(Ω:Sto):Prop where
 ats:∀ (i:Nat) so,Ω[i]? = some so->AtOk J S K mg H Hv i so
 inj:∀ i j a,J i=some a->J j=some a->i=j
 top:∀ i,Ω.length<=i->J i=none
 fin:∀ b,S b=true->H b≠none
 tv:TV H Hv
noncomputable abbrev nof:qf:=fun _=>false
noncomputable def un(F S:qf):qf:=fun b=>F b || S b
theorem un_t{F S:qf}{b:Addr}:un F S b=true↔F b=true\/S b=true:=by unfold un;rw[Bool.or_eq_true]
theorem un_f{F S:qf}{b:Addr}:un F S b=false↔F b=false/\S b=false:=by unfold un;rw[Bool.or_eq_false_iff]
section
variable {J:Rho}{S:qf}{K:W.Frag}{mg:qc}{H H' Hv Hv':Hp}{Ω:Sto}
theorem SOk.mono{a:Addr}{so:SO}(hs:S a=true)(e:∀ b,S b=true->H' b=H b)(v:Same Hv Hv')(h:SOk J S K mg H Hv a so):SOk J S K mg H' Hv' a so:=by
 cases so with
 | ins c fs =>
  obtain⟨C,dx,vfs,q1,q2,q3,q4,q5⟩:=h;exact⟨C,dx,vfs,q1,by rw[e a hs];exact q2,by rw[e dx q4];exact q3,q4,q5.mono (RLe.refl _) v⟩
 | lst ds =>
  obtain⟨xs,q1,q2⟩:=h;exact⟨xs,by rw[e a hs];exact q1,q2.mono v⟩
 | tab x l c q =>
  obtain⟨ps,q1,q2,q3⟩:=h;exact⟨ps,by rw[e a hs];exact q1,q2,q3.mono v⟩
 | dct kvs =>
  obtain⟨vk,q1,q2,q3⟩:=h;exact⟨vk,by rw[e a hs];exact q1,q2,q3.mono v⟩
 | exc c j=>exact ExcOk.mono (fun _ _ z=>z) (e a hs) h
 | xd fs =>
  obtain⟨vfs,q1,q2⟩:=h;exact⟨vfs,by rw[e a hs];exact q1,q2.mono (RLe.refl _) v⟩
theorem StoOk.mono(h:StoOk J S K mg H Hv Ω)(e:∀ b,S b=true->H' b=H b)(v:Same Hv Hv')(t:TV H' Hv'):StoOk J S K mg H' Hv' Ω :=
 ⟨fun i so hi=>let ⟨a,q1,q2,q3⟩:=h.ats i so hi;⟨a,q1,q2,q3.mono q2 e v⟩,h.inj,h.top,fun b hb=>by rw[e b hb];exact h.fin b hb,t⟩
end
structure RM(Jz:Rho)(Sz:qf)(Hz:Hp)(F:qf)(K:W.Frag)(mg:qc)(O:List Nat)(J:Rho)(S:qf)(H:Hp)(Z:St)(Y:DSt)(Ω:Sto):Prop where
 rs:RS J K (hid H (fob nof Z O)) H (un F S) O Z Y
 rho:RLe Jz J
 same:∀ b o,Sz b=false->Hz b=some o->H b=some o
 old:∀ b,Sz b=true->S b=true
 new:∀ b,S b=true->Sz b=true\/Hz b=none
 own0:∀ i∈O,∀ a,Z[i]? = some (some (.ref a))->Hz a=none
 ff:∀ b,F b=true->S b=false
 sto:StoOk J S K mg H (hid H (fob (un F S) Z O)) Ω
section
variable {Jz J:Rho}{Sz S F:qf}{Hz H1 H H':Hp}{K:W.Frag}{mg:qc}{O O':List Nat}{Z:St}{Y:DSt}{Ω:Sto}
theorem RS.rebase(R:RS J K H1 H F O Z Y):RS J K (hid H (fob nof Z O)) H F O Z Y :=
 ⟨R.len,jao,R.fin,R.val,fun i hi=>by
  obtain⟨a,xs,ds,q1,q2,q3,q4,q5⟩:=R.own i hi;refine⟨a,xs,ds,q1,q2,q3,⟨?_,q4.2⟩,q5⟩;unfold hid;rw[if_pos (fob_t.mpr (.inr ⟨i,hi,q2⟩))],R.nd⟩
theorem RM.at_store(R:RM Jz Sz Hz F K mg O J S H Z Y Ω)(e:Same H H'):∀ b,S b=true->H' b=H b:=fun b hb=>by
 cases q:H b with
 | none=>exact absurd q (R.sto.fin b hb)
 | some o=>exact e b o q
theorem RM.mono(R:RM Jz Sz Hz F K mg O J S H Z Y Ω)(e:Same H H'):RM Jz Sz Hz F K mg O J S H' Z Y Ω :=
 ⟨(R.rs.mono e).rebase,R.rho,fun b o h1 h2=>e b o (R.same b o h1 h2),R.old,R.new,R.own0,R.ff,R.sto.mono (R.at_store e) (jan e) (jAz R.sto.tv (fun _ h=>R.rs.fresh h) e)⟩
theorem RM.thaw(R:RM Jz Sz Hz F K mg O J S H Z Y Ω)(h:∀ i∈O',i∈O):RM Jz Sz Hz F K mg O' J S H Z Y Ω :=
 ⟨(R.rs.thaw h).rebase,R.rho,R.same,R.old,R.new,fun i hi=>R.own0 i (h i hi),R.ff,R.sto.mono (fun _ _=>rfl) (jek (jtw h)) (jvc R.sto.tv (jek (jtw h)))⟩
theorem RM.fresh(R:RM Jz Sz Hz F K mg O J S H Z Y Ω){p:Addr}(h:H p=none):fob (un F S) Z O p=false:=R.rs.fresh h
theorem RM.fresh0(R:RM Jz Sz Hz F K mg O J S H Z Y Ω){p:Addr}(h:H p=none):Hz p=none\/Sz p=true:=by
 cases e:Sz p with
 | true=>exact .inr rfl
 | false =>
  cases e0:Hz p with
  | none=>exact .inl rfl
  | some o=>rw[R.same p o e e0] at h;cases h
theorem RM.noS(R:RM Jz Sz Hz F K mg O J S H Z Y Ω){p:Addr}(h:H p=none):S p=false:=by
 cases e:S p with
 | false=>rfl
 | true=>exact absurd h (R.sto.fin p e)
theorem RM.fresh00(R:RM Jz Sz Hz F K mg O J S H Z Y Ω){p:Addr}(h:H p=none):Hz p=none:=by
 rcases R.fresh0 h with q|q
 ·exact q
 ·have:=R.noS h;rw[R.old p q] at this;cases this
theorem RM.set(R:RM Jz Sz Hz F K mg O J S H Z Y Ω){i:Nat}{d:D}{v:V}(ho:i∉O)(hr:Rep J K (hid H (fob (un F S) Z O)) d v):RM Jz Sz Hz F K mg O J S H (Z.set i (some v)) (Y.set i (some d)) Ω:=by
 refine⟨(R.rs.set ho hr).rebase,R.rho,R.same,R.old,R.new,fun j hj a q=>?_,R.ff,by rw[jcj ho];exact R.sto⟩;rw[zba (by rintro rfl;exact ho hj)] at q;exact R.own0 j hj a q
theorem RM.write(R:RM Jz Sz Hz F K mg O J S H Z Y Ω){i:Nat}{a:Addr}{ds:List D}{xs:List V}(hi:i∈O)(ha:Z[i]? = some (some (.ref a)))(hr:Reps J K (hid H (fob (un F S) Z O)) ds xs) :
  RM Jz Sz Hz F K mg O J S (upd H a (.lst xs)) Z (Y.set i (some (.lst ds))) Ω:=by
 obtain⟨a',ys,es,q1,q2,q3,q4,q5⟩:=R.rs.own i hi;rw[ha] at q2;cases q2
 have hS:S a=false:=(un_f.mp q4.2).2;have h0:=R.own0 i hi a ha;have hh:hid (upd H a (.lst xs)) (fob (un F S) Z O)=hid H (fob (un F S) Z O):=jc1 (fob_t.mpr (.inr ⟨i,hi,ha⟩));refine⟨(R.rs.write hi ha hr).rebase,R.rho,fun b o h1 h2=>?_,R.old,R.new,R.own0,R.ff,?_⟩
 ·rw[jar (jaz h2 h0)];exact R.same b o h1 h2
 ·rw[hh];refine R.sto.mono (fun b hb=>?_) (Same.refl _) (jou R.sto.tv fun _ z=>nomatch z);rw[jar];rintro rfl;rw[hS] at hb;cases hb
end
inductive tE(K:W.Frag)(mg:qc)(O:List Nat)(f:DSt->MS D)(Z:St)(H:Hp)(Q:VK):Prop
 | mk (Jz:Rho) (Sz:qf) (Hz:Hp) (F:qf) (J:Rho) (S:qf) (Y:DSt) (Ω:Sto) (R:RM Jz Sz Hz F K mg O J S H Z Y Ω) (r:Except XD D) (Ω':Sto) (hf:f Y Ω=some (r,Ω')) (k:match (generalizing:=false) r with
  | .ok d=>∀ v J' S' H',RM Jz Sz Hz F K mg O J' S' H' Z Y Ω'->RLe J J'->Same (hid H (fob (un F S) Z O)) (hid H' (fob (un F S') Z O))->Rep J' K (hid H' (fob (un F S') Z O)) d v->Q v H'
  | .error _=>True)
def ME(X:Cx)(O:List Nat)(e:Expr)(f:DSt->MS D):Prop:=PE X e (tE X.K X.mg O f)
inductive tEB(K:W.Frag)(mg:qc)(O:List Nat)(f:DSt->MS Bool)(Z:St)(H:Hp)(Q:Bool->Hp->Prop):Prop
 | mk (Jz:Rho) (Sz:qf) (Hz:Hp) (F:qf) (J:Rho) (S:qf) (Y:DSt) (Ω:Sto) (R:RM Jz Sz Hz F K mg O J S H Z Y Ω) (r:Except XD Bool) (Ω':Sto) (hf:f Y Ω=some (r,Ω')) (k:match (generalizing:=false) r with
  | .ok d=>∀ J' S' H',RM Jz Sz Hz F K mg O J' S' H' Z Y Ω'->RLe J J'->Same (hid H (fob (un F S) Z O)) (hid H' (fob (un F S') Z O))->Q d H'
  | .error _=>True)
def MT(X:Cx)(O:List Nat)(e:Expr)(f:DSt->MS Bool):Prop:=PT X e (tEB X.K X.mg O f)
inductive tEL(K:W.Frag)(mg:qc)(O:List Nat)(f:DSt->MS (List D))(Z:St)(H:Hp)(Q:List V->Hp->Prop):Prop
 | mk (Jz:Rho) (Sz:qf) (Hz:Hp) (F:qf) (J:Rho) (S:qf) (Y:DSt) (Ω:Sto) (R:RM Jz Sz Hz F K mg O J S H Z Y Ω) (r:Except XD (List D)) (Ω':Sto) (hf:f Y Ω=some (r,Ω')) (k:match (generalizing:=false) r with
  | .ok ds=>∀ vs J' S' H',RM Jz Sz Hz F K mg O J' S' H' Z Y Ω'->RLe J J'->Same (hid H (fob (un F S) Z O)) (hid H' (fob (un F S') Z O))->Reps J' K (hid H' (fob (un F S') Z O)) ds vs->Q vs H'
  | .error _=>True)
def MA(X:Cx)(O:List Nat)(es:List Expr)(f:DSt->MS (List D)):Prop:=PA X es (tEL X.K X.mg O f)
def lF{α:Type}(f:DSt->M α):DSt->MS α:=fun Y=>MS.l (f Y)
def jzk(f:DSt->MS D)(g:DSt->MS (List D)):DSt->MS (List D):=fun Y=>(f Y).b fun x=>(g Y).b fun xs=>MS.p (x::xs)
def m2(g:D->D->Option D)(fa fb:DSt->MS D):DSt->MS D:=fun Y=>(fa Y).b fun x=>(fb Y).b fun y=>MS.o (g x y)
def m1(g:D->Option D)(fa:DSt->MS D):DSt->MS D:=fun Y=>(fa Y).b fun x=>MS.o (g x)
def mL(k:List D->Option D)(g:DSt->MS (List D)):DSt->MS D:=fun Y=>(g Y).b fun xs=>MS.o (k xs)
def mTru(fa:DSt->MS D):DSt->MS Bool:=fun Y=>(fa Y).b fun x=>MS.o (truD x)
def mNot(ta:DSt->MS Bool):DSt->MS Bool:=fun Y=>(ta Y).b fun x=>MS.p !x
noncomputable def getO(cs:List Str)(f:Str):D->MS D:=fun x Ω=>match x with
 | .obj i=>match Ω[i]? with
  | some (.ins c fs)=>if cs.contains c then (fs.lookup f).map fun d=>(.ok d,Ω) else none
  | _=>none
 | _=>none
def mGet(cs:List Str)(f:Str)(fa:DSt->MS D):DSt->MS D:=fun Y=>(fa Y).b fun x=>getO cs f x
section
variable {X:Cx}{O:List Nat}{a b c e:Expr}{es:List Expr}{fa fb:DSt->MS D}{fl:DSt->MS (List D)}{pos:Pos}
theorem jhu{f:DSt->M D}(h:DE X O E0 e f):ME X O e (lF f):=by
 rintro U s Z H Q I ⟨Jz,Sz,Hz,F,J,S,Y,Ω,R,r,Ω',hf,k⟩;obtain⟨hg,rfl⟩:=MS.l_inv hf;refine h U s Z H Q I ⟨J,_,un F S,Y,r,R.rs,hg,?_⟩
 cases r with
 | ok d=>exact fun v H' s' rv=>k v J S H' (R.mono s') (RLe.refl _) (jan s') rv
 | error x=>exact fun c dx H' _ z=>z.elim
theorem jht{f:DSt->M (List D)}(h:DA X O E0 es f):MA X O es (lF f):=by
 rintro p U s Z H Q I ⟨Jz,Sz,Hz,F,J,S,Y,Ω,R,r,Ω',hf,k⟩;obtain⟨hg,rfl⟩:=MS.l_inv hf;refine h p U s Z H Q I ⟨J,_,un F S,Y,r,R.rs,hg,?_⟩
 cases r with
 | ok d=>exact fun v H' s' rv=>k v J S H' (R.mono s') (RLe.refl _) (jan s') rv
 | error x=>exact fun c dx H' _ z=>z.elim
theorem jzm(ha:ME X O e fa)(hr:MA X O es fl)(hs:autoParam (starEach (e::es) X.env=(false,eval e X.env)::starEach es X.env) zau2._auto_1):MA X O (e::es) (jzk fa fl):=by
 rintro p U s Z H Q I ⟨Jz,Sz,Hz,F,J,S,Y,Ω,R,r,Ω',hf,k⟩;refine jgf ha hr hs p U s Z H Q I ?_;rcases MS.b_inv hf with ⟨x,Ω1,e1,hf⟩|⟨x,e1,rfl⟩
 ·refine⟨Jz,Sz,Hz,F,J,S,Y,Ω,R,.ok x,Ω1,e1,fun u J1 S1 H1 R1 l1 v1 r1=>?_⟩;rcases MS.b_inv hf with ⟨xs,Ω2,e2,hf⟩|⟨y,e2,rfl⟩
  ·cases hf;exact⟨Jz,Sz,Hz,F,J1,S1,Y,Ω1,R1,.ok xs,_,e2,fun vs J2 S2 H2 R2 l2 v2 r2=>k (u::vs) J2 S2 H2 R2 (l1.trans l2) (v1.trans v2) (Reps.cons ((r1.rho l2).mono v2) r2)⟩
  ·exact⟨Jz,Sz,Hz,F,J1,S1,Y,Ω1,R1,.error y,_,e2,trivial⟩
 ·exact⟨Jz,Sz,Hz,F,J,S,Y,Ω,R,.error x,_,e1,trivial⟩
theorem jt7{g:D->D->Option D}{r:R2}{Z:St}{H:Hp}{Q:VK}(hg:OpD X.K g r)(h:tE X.K X.mg O (m2 g fa fb) Z H Q):tOp r (tE X.K X.mg O fa) (tE X.K X.mg O fb) Z H Q:=by
 obtain⟨Jz,Sz,Hz,F,J,S,Y,Ω,R,r,Ω',hf,k⟩:=h;rcases MS.b_inv hf with ⟨x,Ω1,e1,hf⟩|⟨x,e1,rfl⟩
 ·refine⟨Jz,Sz,Hz,F,J,S,Y,Ω,R,.ok x,Ω1,e1,fun u J1 S1 H1 R1 l1 v1 r1=>?_⟩;rcases MS.b_inv hf with ⟨y,Ω2,e2,hf⟩|⟨y,e2,rfl⟩
  ·refine⟨Jz,Sz,Hz,F,J1,S1,Y,Ω1,R1,.ok y,Ω2,e2,fun w J2 S2 H2 R2 l2 v2 r2=>?_⟩;obtain⟨d,hd,rfl,rfl⟩:=MS.o_inv hf;exact hg x y d hd J2 H2 _ u w Q (fun p hp=>R2.fresh hp) ((r1.rho l2).mono v2) r2 fun z H3 s3 r3=>k z J2 S2 H3 (R2.mono s3) (l1.trans l2) (v1.trans (v2.trans (jan s3))) r3
  ·exact⟨Jz,Sz,Hz,F,J1,S1,Y,Ω1,R1,.error y,_,e2,trivial⟩
 ·exact⟨Jz,Sz,Hz,F,J,S,Y,Ω,R,.error x,_,e1,trivial⟩
theorem jF9{g:D->D->Option D}{r:R2}(ho:IxR X r)(hg:OpD X.K g r)(ha:ME X O a fa)(hb:ME X O b fb)(hs:autoParam (jl6 b) zau5._auto_1):ME X O (.Subscript a b pos) (m2 g fa fb) :=
 fun U s Z H Q I h=>jz5 ho ha hb hs U s Z H Q I (jt7 hg h)
end
structure RT(Jz:Rho)(Sz:qf)(Hz:Hp)(F:qf)(K:W.Frag)(mg:qc)(J:Rho)(S:qf)(H:Hp)(Ω:Sto):Prop where
 rho:RLe Jz J
 same:∀ b o,Sz b=false->Hz b=some o->H b=some o
 old:∀ b,Sz b=true->S b=true
 new:∀ b,S b=true->Sz b=true\/Hz b=none
 ff:∀ b,F b=true->S b=false
 sto:StoOk J S K mg H (hid H (un F S)) Ω
section
variable {Jz J:Rho}{Sz S F:qf}{Hz H H':Hp}{K:W.Frag}{mg:qc}{O O':List Nat}{Z Z':St}{Y Y':DSt}{Ω:Sto}
theorem jg9{Z:St}{O:List Nat}{F:qf}:∀ b,F b=true->fob F Z O b=true:=fun b h=>fob_t.mpr (.inl h)
theorem RM.rt(R:RM Jz Sz Hz F K mg O J S H Z Y Ω):RT Jz Sz Hz F K mg J S H Ω :=
 ⟨R.rho,R.same,R.old,R.new,R.ff,R.sto.mono (fun _ _=>rfl) (jek jg9) (jvc R.sto.tv (jek jg9))⟩
theorem RM.base_some(R:RM Jz Sz Hz F K mg O J S H Z Y Ω){b:Addr}{o:HO}(h:H b=some o)(hn:¬ ∃ i∈O,Z[i]? = some (some (.ref b))):hid H (fob nof Z O) b=some o :=
 hid_some.mpr ⟨by cases e:fob nof Z O b with
  | false=>rfl
  | true=>rcases fob_t.mp e with q|q;cases q;exact absurd q hn,h⟩
theorem RM.base_S(R:RM Jz Sz Hz F K mg O J S H Z Y Ω){b:Addr}(hb:S b=true):¬ ∃ i∈O,Z[i]? = some (some (.ref b)):=by
 rintro⟨i,hi,q⟩;obtain⟨a,xs,ds,q1,q2,q3,q4,q5⟩:=R.rs.own i hi;rw[q] at q2;cases q2
 rw[(un_f.mp q4.2).2] at hb;cases hb
theorem RM.base_0(R:RM Jz Sz Hz F K mg O J S H Z Y Ω){b:Addr}{o:HO}(hb:Hz b=some o):¬ ∃ i∈O,Z[i]? = some (some (.ref b)):=by
 rintro⟨i,hi,q⟩;rw[R.own0 i hi b q] at hb;cases hb
theorem RM.no_tup(R:RM Jz Sz Hz F K mg O J S H Z Y Ω)(s:Same (hid H (fob nof Z O)) H'){b:Addr}{xs:List V}(hb:un F S b=true):H' b≠some (.tup xs):=fun q=>by
 cases e:H b with
 | none=>exact R.rs.fin b hb e
 | some o =>
  have:=s b o (R.base_some e fun ⟨i,hi,y⟩=>by
   obtain⟨a,xs,ds,q1,q2,q3,q4,q5⟩:=R.rs.own i hi;rw[y] at q2;cases q2
   rw[q4.2] at hb;cases hb)
  rw[q] at this;cases this;have:=(hid_some.mp (R.sto.tv b xs e)).1;rw[jg9 b hb] at this;cases this
theorem RM.next(R:RM Jz Sz Hz F K mg O J S H Z Y Ω)(R':RS J K (hid H (fob nof Z O)) H' (un F S) O' Z' Y')(v:Same (hid H (fob (un F S) Z O)) (hid H' (fob (un F S) Z' O'))):RM Jz Sz Hz F K mg O' J S H' Z' Y' Ω:=by
 refine⟨R'.rebase,R.rho,fun b o h1 h2=>R'.same b o (R.base_some (R.same b o h1 h2) (R.base_0 h2)),R.old,R.new,fun i hi a q=>?_,R.ff,R.sto.mono (fun b hb=>?_) v fun b xs q=>hid_some.mpr ⟨?_,q⟩⟩
 ·obtain⟨a',xs,ds,q1,q2,q3,q4,q5⟩:=R'.own i hi;rw[q] at q2;cases q2
  have h0:=q4.1
  cases e:H a with
  | none=>exact R.fresh00 e
  | some o =>
   by_cases hn:∃ i∈O,Z[i]? = some (some (.ref a))
   ·obtain⟨j,hj,z⟩:=hn;exact R.own0 j hj a z
   ·rw[R.base_some e hn] at h0;cases h0
 ·cases e:H b with
  | none=>exact absurd e (R.sto.fin b hb)
  | some o=>exact R'.same b o (R.base_some e (R.base_S hb))
 ·cases z:fob (un F S) Z' O' b with
  | false=>rfl
  | true =>
   rcases fob_t.mp z with z|⟨i,hi,z⟩
   ·exact absurd q (R.no_tup R'.same z)
   ·obtain⟨a,xs,ds,q1,q2,q3,q4,q5⟩:=R'.own i hi;rw[z] at q2;cases q2
    rw[q3] at q;cases q
theorem RM.left(R:RM Jz Sz Hz F K mg O J S H Z Y Ω)(s:Same (hid H (fob nof Z O)) H'):RT Jz Sz Hz F K mg J S H' Ω:=by
 refine⟨R.rho,fun b o h1 h2=>s b o (R.base_some (R.same b o h1 h2) (R.base_0 h2)),R.old,R.new,R.ff,R.sto.mono (fun b hb=>?_) (fun b o q=>?_) fun b xs q=>hid_some.mpr ⟨?_,q⟩⟩
 ·cases e:H b with
  | none=>exact absurd e (R.sto.fin b hb)
  | some o=>exact s b o (R.base_some e (R.base_S hb))
 ·obtain⟨q1,q2⟩:=hid_some.mp q;refine hid_some.mpr ⟨?_,s b o (R.base_some q2 fun hn=>?_)⟩
  ·cases e:un F S b with
   | false=>rfl
   | true=>rw[jg9 b e] at q1;cases q1
  ·rw[fob_t.mpr (.inr hn)] at q1;cases q1
 ·cases z:un F S b with
  | false=>rfl
  | true=>exact absurd q (R.no_tup s z)
end
def OkE(K:W.Frag)(mg:qc)(O' B:List Nat)(Jz:Rho)(Sz:qf)(Hz:Hp)(F:qf)(J:Rho)(Hv:Hp)(Dn:Ends):Except XD Out->Sto->Prop
 | .ok (.nx Y'),Ω'=>∀ J' S' Z' H',RM Jz Sz Hz F K mg O' J' S' H' Z' Y' Ω'->RLe J J'->Same Hv (hid H' (fob (un F S') Z' O'))->Dn.nx Z' H'
 | .ok (.rt d),Ω'=>∀ v J' S' H',RT Jz Sz Hz F K mg J' S' H' Ω'->Rep J' K (hid H' (un F S')) d v->Dn.rt v H'
 | .ok (.bk Y'),Ω'=>∀ J' S' Z' H',RM Jz Sz Hz F K mg B J' S' H' Z' Y' Ω'->RLe J J'->Same Hv (hid H' (fob (un F S') Z' B))->Dn.bk Z' H'
 | .ok (.ct Y'),Ω'=>∀ J' S' Z' H',RM Jz Sz Hz F K mg B J' S' H' Z' Y' Ω'->RLe J J'->Same Hv (hid H' (fob (un F S') Z' B))->Dn.ct Z' H'
 | .error _,_=>True
theorem OkE.back{K:W.Frag}{mg:qc}{O' B:List Nat}{Jz J J':Rho}{Sz:qf}{Hz:Hp}{F:qf}{Hv Hv':Hp}{Dn:Ends}{r:Except XD Out}{Ω':Sto}(l:RLe J J')(e:Same Hv Hv')(h:OkE K mg O' B Jz Sz Hz F J Hv Dn r Ω') :
  OkE K mg O' B Jz Sz Hz F J' Hv' Dn r Ω':=by
 cases r with
 | error x=>trivial
 | ok o =>
  cases o with
  | nx Y'=>exact fun J1 S1 Z1 H1 R l1 v1=>h J1 S1 Z1 H1 R (l.trans l1) (e.trans v1)
  | bk Y'=>exact fun J1 S1 Z1 H1 R l1 v1=>h J1 S1 Z1 H1 R (l.trans l1) (e.trans v1)
  | ct Y'=>exact fun J1 S1 Z1 H1 R l1 v1=>h J1 S1 Z1 H1 R (l.trans l1) (e.trans v1)
  | rt d=>exact h
inductive sE(K:W.Frag)(mg:qc)(O O' B:List Nat)(g:DSt->MS Out)(Dn:Ends)(Z:St)(H:Hp):Prop
 | mk (Jz:Rho) (Sz:qf) (Hz:Hp) (F:qf) (J:Rho) (S:qf) (Y:DSt) (Ω:Sto) (R:RM Jz Sz Hz F K mg O J S H Z Y Ω) (r:Except XD Out) (Ω':Sto) (hf:g Y Ω=some (r,Ω')) (k:OkE K mg O' B Jz Sz Hz F J (hid H (fob (un F S) Z O)) Dn r Ω')
def MSt(X:Cx)(O O' B:List Nat)(st:Stmt)(g:DSt->MS Out):Prop:=PS X st (sE X.K X.mg O O' B g)
def MSs(X:Cx)(O O' B:List Nat)(st:List Stmt)(g:DSt->MS Out):Prop:=PSs X st (sE X.K X.mg O O' B g)
def eNx:DSt->MS Out:=fun Y=>MS.p (.nx Y)
def eSeq(g1 g2:DSt->MS Out):DSt->MS Out:=fun Y=>(g1 Y).b fun o=>match o with
 | .nx Y'=>g2 Y'
 | o=>MS.p o
def eSet(i:Nat)(f:DSt->MS D):DSt->MS Out:=fun Y=>(f Y).b fun d=>MS.p (.nx (Y.set i (some d)))
def eRet(f:DSt->MS D):DSt->MS Out:=fun Y=>(f Y).b fun d=>MS.p (.rt d)
def jv5(f:DSt->MS D):DSt->MS Out:=fun Y=>(f Y).b fun _=>MS.p (.nx Y)
noncomputable def eIf(t:DSt->MS Bool)(g1 g2:DSt->MS Out):DSt->MS Out:=fun Y=>(t Y).b fun b=>if b=true then g1 Y else g2 Y
def eApp(i:Nat)(f:DSt->MS D):DSt->MS Out:=fun Y=>(f Y).b fun d=>match (Y[i]?).join with
 | some (.lst ds)=>if ds.length<sizeLine then MS.p (.nx (Y.set i (some (.lst (ds++[d]))))) else fun _=>none
 | _=>fun _=>none
def putO(cs:List Str)(f:Str)(x d:D):MS Unit:=fun Ω=>match x with
 | .obj i=>match Ω[i]? with
  | some (.ins c fs)=>if (cs.contains c&&decide (fs.length<1000))=true then some (.ok (),Ω.set i (.ins c (putD f d fs))) else none
  | _=>none
 | _=>none
def ePut(cs:List Str)(f:Str)(fo fv:DSt->MS D):DSt->MS Out:=fun Y=>(fv Y).b fun d=>(fo Y).b fun x=>(putO cs f x d).b fun _=>MS.p (.nx Y)
def forE(g:DSt->MS Out)(tg:D->DSt->Option DSt):List D->DSt->MS Out
 | [],Y=>MS.p (.nx Y)
 | d::ds,Y=>match tg d Y with
  | none=>fun _=>none
  | some Y1=>(g Y1).b fun o=>match o with
   | .nx Y'=>forE g tg ds Y'
   | .ct Y'=>forE g tg ds Y'
   | .bk Y'=>MS.p (.nx Y')
   | .rt v=>MS.p (.rt v)
def eFor(fi:DSt->MS (List D))(tg:D->DSt->Option DSt)(g:DSt->MS Out):DSt->MS Out:=fun Y=>(fi Y).b fun ds=>forE g tg ds Y
section
variable {X:Cx}{O O' O'' B:List Nat}{c e:Expr}{fa:DSt->MS D}{pos:Pos}{st:Stmt}{rest:List Stmt}{g g1 g2:DSt->MS Out}{tc:DSt->MS Bool}
theorem jbu{h:DSt->M Out}(hd:DS X O O' B E0 st h):MSt X O O' B st (lF h):=by
 rintro U s Z H Dn I ⟨Jz,Sz,Hz,F,J,S,Y,Ω,R,r,Ω',hf,k⟩;obtain⟨hg,rfl⟩:=MS.l_inv hf;refine hd U s Z H Dn I ⟨J,_,un F S,Y,r,R.rs,hg,?_⟩
 cases r with
 | error x=>exact fun c dx H' _ z=>z.elim
 | ok o =>
  cases o with
  | nx Y'=>exact fun Z' H' v R'=>k J S Z' H' (R.next R' v) (RLe.refl _) v
  | bk Y'=>exact fun Z' H' v R'=>k J S Z' H' (R.next R' v) (RLe.refl _) v
  | ct Y'=>exact fun Z' H' v R'=>k J S Z' H' (R.next R' v) (RLe.refl _) v
  | rt d=>exact fun v H' s' rv=>k v J S H' (R.left s') rv
theorem jzr:MSs X O O B [] eNx:=by
 rintro U s Z H Dn I ⟨Jz,Sz,Hz,F,J,S,Y,Ω,R,r,Ω',hf,k⟩;cases hf;exact juw U s Z H Dn I (k J S Z H R (RLe.refl _) (Same.refl _))
theorem ja7(h1:MSt X O O' B st g1)(h2:MSs X O' O'' B rest g2):MSs X O O'' B (st::rest) (eSeq g1 g2):=by
 rintro U s Z H Dn I ⟨Jz,Sz,Hz,F,J,S,Y,Ω,R,r,Ω',hf,k⟩;refine jq5 h1 h2 U s Z H Dn I ?_;rcases MS.b_inv hf with ⟨o,Ω1,e1,hf⟩|⟨x,e1,rfl⟩
 ·refine⟨Jz,Sz,Hz,F,J,S,Y,Ω,R,.ok o,Ω1,e1,?_⟩
  cases o with
  | nx Y'=>exact fun J1 S1 Z1 H1 R1 l1 v1=>⟨Jz,Sz,Hz,F,J1,S1,Y',Ω1,R1,r,Ω',hf,k.back l1 v1⟩
  | rt d=>cases hf;exact k
  | bk Y'=>cases hf;exact k
  | ct Y'=>cases hf;exact k
 ·exact⟨Jz,Sz,Hz,F,J,S,Y,Ω,R,.error x,_,e1,trivial⟩
theorem jd5(h1:MSt X O O' B st g):MSs X O O' B [st] g:=fun U s Z H Dn I h=>jpz h1 U s Z H Dn I h
theorem jmu{sts:List Stmt}(hO:∀ i∈O',i∈O)(h:MSs X O' O'' B sts g):MSs X O O'' B sts g:=by
 rintro U s Z H Dn I ⟨Jz,Sz,Hz,F,J,S,Y,Ω,R,r,Ω',hf,k⟩;exact h U s Z H Dn I ⟨Jz,Sz,Hz,F,J,S,Y,Ω,R.thaw hO,r,Ω',hf,k.back (RLe.refl _) (jek (jtw hO))⟩
theorem jn5{i:Nat}{x:Str}{pos':Pos}(hN:X.N.Nodup)(he:ME X O e fa)(ho:autoParam (O.contains i=false) zau2._auto_1)(hi:autoParam (X.N[i]? = some x) zau2._auto_1)(hx:autoParam (Loc X.env.scope x) zau7._auto_1)(hs:autoParam (swapsWith e (some (.Name x pos')) pos.line X.env=pure false) zau2._auto_1)
  (hf:autoParam (qi X x) zau0._auto_1):MSt X O O B (.Assign [.Name x pos'] e pos) (eSet i fa):=by
 rintro U s Z H Dn I ⟨Jz,Sz,Hz,F,J,S,Y,Ω,R,r,Ω',hg,k⟩;have ho':i∉O:=fun z=>by rw[zcx.mpr z] at ho;cases ho
 refine jok hN hi hx he hs hf U s Z H Dn I ?_;rcases MS.b_inv hg with ⟨d,Ω1,e1,hg⟩|⟨x,e1,rfl⟩
 ·cases hg;exact⟨Jz,Sz,Hz,F,J,S,Y,Ω,R,.ok d,_,e1,fun v J1 S1 H1 R1 l1 v1 r1=>k J1 S1 _ H1 (R1.set ho' r1) l1 (by rw[jcj ho'];exact v1)⟩
 ·exact⟨Jz,Sz,Hz,F,J,S,Y,Ω,R,.error x,_,e1,trivial⟩
theorem jya(he:ME X O e fa):MSt X O O' B (.Return (some e) pos) (eRet fa):=by
 rintro U s Z H Dn I ⟨Jz,Sz,Hz,F,J,S,Y,Ω,R,r,Ω',hg,k⟩;refine juu he U s Z H Dn I ?_;rcases MS.b_inv hg with ⟨d,Ω1,e1,hg⟩|⟨x,e1,rfl⟩
 ·cases hg;exact⟨Jz,Sz,Hz,F,J,S,Y,Ω,R,.ok d,_,e1,fun v J1 S1 H1 R1 l1 v1 r1=>k v J1 S1 H1 R1.rt (r1.mono (jek jg9))⟩
 ·exact⟨Jz,Sz,Hz,F,J,S,Y,Ω,R,.error x,_,e1,trivial⟩
theorem jzq(he:ME X O e fa)(hs:autoParam (swapsWith e none pos.line X.env=pure false) zau2._auto_1):MSt X O O B (.Expr e pos) (jv5 fa):=by
 rintro U s Z H Dn I ⟨Jz,Sz,Hz,F,J,S,Y,Ω,R,r,Ω',hg,k⟩;refine jm2 he hs U s Z H Dn I ?_;rcases MS.b_inv hg with ⟨d,Ω1,e1,hg⟩|⟨x,e1,rfl⟩
 ·cases hg;exact⟨Jz,Sz,Hz,F,J,S,Y,Ω,R,.ok d,_,e1,fun v J1 S1 H1 R1 l1 v1 r1=>k J1 S1 Z H1 R1 l1 v1⟩
 ·exact⟨Jz,Sz,Hz,F,J,S,Y,Ω,R,.error x,_,e1,trivial⟩
theorem jGa{s1 s2:List Stmt}(hc:MT X O c tc)(h1:MSs X O O' B s1 g1)(h2:MSs X O O' B s2 g2):MSt X O O' B (.If c s1 s2 pos) (eIf tc g1 g2):=by
 rintro U s Z H Dn I ⟨Jz,Sz,Hz,F,J,S,Y,Ω,R,r,Ω',hg,k⟩;refine jDt hc h1 h2 U s Z H Dn I ?_;rcases MS.b_inv hg with ⟨z,Ω1,e1,hg⟩|⟨x,e1,rfl⟩
 ·refine⟨Jz,Sz,Hz,F,J,S,Y,Ω,R,.ok z,_,e1,fun J1 S1 H1 R1 l1 v1=>?_⟩
  cases z with
  | true=>exact iteT ⟨Jz,Sz,Hz,F,J1,S1,Y,Ω1,R1,r,Ω',hg,k.back l1 v1⟩
  | false=>exact iteF ⟨Jz,Sz,Hz,F,J1,S1,Y,Ω1,R1,r,Ω',hg,k.back l1 v1⟩
 ·exact⟨Jz,Sz,Hz,F,J,S,Y,Ω,R,.error x,_,e1,trivial⟩
theorem jC1{i:Nat}{x:Str}{p1 p2 p3:Pos}(ho:O.contains i=true)(he:ME X O e fa)(hi:autoParam (X.N[i]? = some x) zau2._auto_1)(hv:autoParam (Vis X.env.scope x) zau4._auto_1)
  (hd:autoParam (qj x) zau1._auto_1) (hcd:autoParam ((x == ("__classdict__":Str))=false) zau1._auto_1) (hbase:autoParam (attributeBase (.Name x p1) "append" X.env (eval (.Name x p1) X.env)=eval (.Name x p1) X.env) zau2._auto_1)
  (hfew:((backTo p3 (starEach [e] X.env)).all (fun x=>!x.1)&&(backToKw p3 (keywordEach [] X.env)).all (fun x=>x.1.isSome)
   && decide ([e].length+([]:List Keyword).length+(if ([]:List Keyword).isEmpty then 0 else 1)<30))=true:=by rfl)
  (hline:autoParam ((p2.endLine == p3.line)=true) zau2._auto_1) (hs:autoParam (starEach [e] X.env=[(false,eval e X.env)]) zau2._auto_1) (hsw:autoParam (swapsWith (.Call (.Attribute (.Name x p1) "append" p2) [e] [] p3) none pos.line X.env=pure false) zau2._auto_1) :
  MSt X O O B (.Expr (.Call (.Attribute (.Name x p1) "append" p2) [e] [] p3) pos) (eApp i fa):=by
 rintro U s Z H Dn I ⟨Jz,Sz,Hz,F,J,S,Y,Ω,R,r,Ω',hg,k⟩;have ho':i∈O:=zcx.mp ho;obtain⟨l,xs0,ds0,q1,q2,q3,q4,q5⟩:=R.rs.own i ho';refine jm2 (jz2 PySem.F.plainAttrs_list PySem.F.slot_list_append PySem.F.type_list_append jgd (jlz hi hv hd hcd) (jgf he jly hs) hbase hfew hline hs rfl) hsw U s Z H Dn I ?_;refine⟨.ref l,q2,.inl ⟨rfl,_,SqL.of q3⟩,?_⟩;rcases MS.b_inv hg with ⟨d,Ω1,e1,hg⟩|⟨x,e1,rfl⟩
 ·refine⟨Jz,Sz,Hz,F,J,S,Y,Ω,R,.ok d,_,e1,fun v J1 S1 H1 R1 l1 v1 r1=>?_⟩;have hj:(Y[i]?).join=some (.lst ds0):=by rw[q1];rfl
  rw[hj] at hg;dsimp only at hg
  split at hg
  ·rename_i hz;cases hg;obtain⟨l',xs,ds,p1,p2,p3,p4,p5⟩:=R1.rs.own i ho';rw[q2] at p2;cases p2
   rw[q1] at p1;cases p1
   refine⟨l,xs,v,rfl,rfl,p3,by rw[p5.length];exact hz,?_⟩;refine k J1 S1 Z _ (R1.write ho' q2 (p5.append (Reps.cons r1 Reps.nil))) l1 ?_;rw[jc1 (fob_t.mpr (.inr ⟨i,ho',q2⟩))];exact v1
  ·cases hg
 ·exact⟨Jz,Sz,Hz,F,J,S,Y,Ω,R,.error x,_,e1,trivial⟩
end
section
variable {Jz J J':Rho}{Sz S S' F:qf}{Hz H H1 H':Hp}{K:W.Frag}{mg:qc}{O:List Nat}{Z:St}{Y:DSt}{Ω Ω':Sto}
theorem RS.updF{a:Addr}{o:HO}(R:RS J K H1 H F O Z Y)(h:F a=true):RS J K (hid (upd H a o) (fob nof Z O)) (upd H a o) F O Z Y:=by
 have hh:hid (upd H a o) (fob F Z O)=hid H (fob F Z O):=jc1 (jg9 a h);refine⟨R.len,jao,fun b hb=>jfu (R.fin b hb),fun i d hd hi=>by rw[hh];exact R.val i d hd hi,fun i hi=>?_,R.nd⟩;obtain⟨l,xs,ds,q1,q2,q3,q4,q5⟩:=R.own i hi;have hl:l≠a:=by rintro rfl;rw[q4.2] at h;cases h
 refine⟨l,xs,ds,q1,q2,by rw[jar hl];exact q3,⟨?_,q4.2⟩,by rw[hh];exact q5⟩;unfold hid;rw[if_pos (fob_t.mpr (.inr ⟨i,hi,q2⟩))]
theorem jft:un (fob F Z O) S=fob (un F S) Z O:=by
 funext b
 unfold un fob;simp only;cases F b<;>cases S b<;>cases (ownA Z O).contains b<;>rfl
theorem RM.call(R:RM Jz Sz Hz F K mg O J S H Z Y Ω)(l:RLe J J')(sm:∀ b o,S b=false->H b=some o->H' b=some o)(old:∀ b,S b=true->S' b=true)(new:∀ b,S' b=true->S b=true\/H b=none)
  (ff:∀ b,fob F Z O b=true->S' b=false) (sto:StoOk J' S' K mg H' (hid H' (un (fob F Z O) S')) Ω') :
  RM Jz Sz Hz F K mg O J' S' H' Z Y Ω'/\Same (hid H (fob (un F S) Z O)) (hid H' (fob (un F S') Z O)):=by
 have keepS:∀ b o,S b=false->H b=some o->S' b=false:=fun b o h1 h2=>by
  cases e:S' b with
  | false=>rfl
  | true =>
   rcases new b e with q|q
   ·rw[q] at h1;cases h1
   ·rw[q] at h2;cases h2
 have vis:Same (hid H (fob (un F S) Z O)) (hid H' (fob (un F S') Z O)):=fun b o q=>by
  obtain⟨q1,q2⟩:=hid_some.mp q;have hu:un F S b=false:=by
   cases e:un F S b with
   | false=>rfl
   | true=>rw[jg9 b e] at q1;cases q1
  obtain⟨h1,h2⟩:=un_f.mp hu;refine hid_some.mpr ⟨?_,sm b o h2 q2⟩
  cases e:fob (un F S') Z O b with
  | false=>rfl
  | true =>
   rcases fob_t.mp e with z|z
   ·rcases un_t.mp z with z|z
    ·rw[h1] at z;cases z
    ·rw[keepS b o h2 q2] at z;cases z
   ·rw[fob_t.mpr (.inr z)] at q1;cases q1
 have rs:RS J' K (hid H' (fob nof Z O)) H' (un F S') O Z Y:=by
  refine⟨R.rs.len,jao,fun b hb=>?_,fun i d hd hi=>?_,fun i hi=>?_,R.rs.nd⟩
  ·rcases un_t.mp hb with q|q
   ·have h1:=R.rs.fin b (un_t.mpr (.inl q));intro z
    cases e:H b with
    | none=>exact h1 e
    | some o=>rw[sm b o (R.ff b q) e] at z;cases z
   ·exact sto.fin b q
  ·obtain⟨v,q1,q2⟩:=R.rs.val i d hd hi;exact⟨v,q1,(q2.rho l).mono vis⟩
  ·obtain⟨a,xs,ds,q1,q2,q3,q4,q5⟩:=R.rs.own i hi;have hS:=(un_f.mp q4.2).2;refine⟨a,xs,ds,q1,q2,sm a _ hS q3,⟨?_,un_f.mpr ⟨(un_f.mp q4.2).1,keepS a _ hS q3⟩⟩,(q5.rho l).mono vis⟩;unfold hid;rw[if_pos (fob_t.mpr (.inr ⟨i,hi,q2⟩))]
 refine⟨⟨rs,R.rho.trans l,fun b o h1 h2=>?_,fun b hb=>old b (R.old b hb),fun b hb=>?_,R.own0,fun b hb=>ff b (fob_t.mpr (.inl hb)),by rw[jft] at sto;exact sto⟩,vis⟩
 ·have h3:=R.same b o h1 h2;refine sm b o ?_ h3
  cases e:S b with
  | false=>rfl
  | true =>
   rcases R.new b e with q|q
   ·rw[q] at h1;cases h1
   ·rw[q] at h2;cases h2
 ·rcases new b hb with q|q
  ·exact R.new b q
  ·exact .inr (R.fresh00 q)
noncomputable def addR(J:Rho)(n:Nat)(x:Addr):Rho:=fun i=>if i=n then some x else J i
noncomputable def addS(S:qf)(x dx:Addr):qf:=fun b=>S b || b == x || b == dx
theorem addS_t{S:qf}{x dx b:Addr}:addS S x dx b=true↔S b=true\/b=x\/b=dx:=by
 unfold addS;simp only[Bool.or_eq_true,beq_iff_eq,or_assoc]
end
inductive spE(K:W.Frag)(mg:qc)(n:Nat)(m:List D->MS D)(vs:List V)(H:Hp)(Q:VK)(E:XK):Prop
 | mk (hn:vs.length=n) (J:Rho) (S F:qf) (ds:List D) (Ω:Sto) (hF:∀ b,F b=true->H b≠none) (hS:∀ b,F b=true->S b=false) (hr:Reps J K (hid H (un F S)) ds vs) (hs:StoOk J S K mg H (hid H (un F S)) Ω) (r:Except XD D) (Ω':Sto) (hf:m ds Ω=some (r,Ω')) (k:match (generalizing:=false) r with
  | .ok d=>∀ v J' S' H',RLe J J'->(∀ b o,S b=false->H b=some o->H' b=some o)->(∀ b,S b=true->S' b=true)->(∀ b,S' b=true->S b=true\/H b=none)->(∀ b,F b=true->S' b=false)->StoOk J' S' K mg H' (hid H' (un F S')) Ω'->Rep J' K (hid H' (un F S')) d v->Q v H'
  | .error _=>True)
inductive MetX(P:Program)(w:World)(K:W.Frag)(mg:qc)(base:Heap)(k:Nat)(c x:Str)(n:Nat)(sp:Sp):Prop
 | mk (C f:Addr) (fd:FuncData) (ps:List Str) (h1:ps.length=n) (h2:mg c=some (.ref C)) (h3:Cls K C) (h4:Meth K C x f) (h5:Binds K fd ps []) (h6:FnOk P w K mg base CX0 k f fd ps sp)
inductive IniX(P:Program)(w:World)(K:W.Frag)(mg:qc)(base:Heap)(k:Nat)(c:Str)(n:Nat)(sp:Sp):Prop
 | mk (C f:Addr) (fd:FuncData) (ps:List Str) (h1:ps.length=n) (h2:mg c=some (.ref C)) (h3:Mk K C f) (h4:Binds K fd ps []) (h5:FnOk P w K mg base CX0 k f fd ps sp)
structure CalE(P:Program)(w:World)(K:W.Frag)(mg:qc)(base:Heap)(k:Nat)(x:Str)(n:Nat)(m:List D->MS D):Prop where
 ex:CalX P w K mg base k x n (spE K mg n m)
 ar:∀ ds Ω r,m ds Ω=some r->ds.length=n
structure MetE(P:Program)(w:World)(K:W.Frag)(mg:qc)(base:Heap)(k:Nat)(c x:Str)(n:Nat)(m:List D->MS D):Prop where
 ex:MetX P w K mg base k c x n (spE K mg n m)
 ar:∀ ds Ω r,m ds Ω=some r->ds.length=n
structure IniE(P:Program)(w:World)(K:W.Frag)(mg:qc)(base:Heap)(k:Nat)(c:Str)(n:Nat)(m:List D->MS D):Prop where
 ex:IniX P w K mg base k c n (spE K mg n m)
 ar:∀ ds Ω r,m ds Ω=some r->ds.length=n
def outE:Out->MS D
 | .rt d=>MS.p d
 | .nx _=>MS.p .non
 | _=>fun _=>none
def mirE(n N:Nat)(g:DSt->MS Out):List D->MS D:=fun ds=>if ds.length=n then (g (startD N ds)).b outE else fun _=>none
theorem jzp{n N:Nat}{g:DSt->MS Out}:∀ ds Ω r,mirE n N g ds Ω=some r->ds.length=n:=fun ds Ω r h=>by
 unfold mirE at h
 split at h
 ·assumption
 ·cases h
section
variable {P:Program}{w:World}{K:W.Frag}{mg:qc}{base:Heap}
theorem fn_E{x q:Str}{st:Stmt}{N ps:List Str}{k:Nat}{O':List Nat}{g:DSt->MS Out}{f:Addr}{fd:FuncData}(F:Fun K x q st f fd)(Sc:FnScope N ps (jae st))
  (hbody:∀ (f:Addr) (cdv:Value) (A:Around) (outer:List Env) (s:Shared) (H:Hp) (E:XK),Room k (A.deeper (PyProof.Rows.envOfC q (jae st) s.heap.objs.size f cdv)) ->
   MSs (cxOf CX0 P w K mg base N q (jae st) f cdv A outer s H E).nox [] O' [] (jbp st) g):FnOk P w K mg base CX0 (k+1) f fd ps (spE K mg ps.length (mirE ps.length N.length g)):=by
 refine F.ok Sc (fun vs H Q E h=>h.1) fun cdv A outer s H vs Q E hr h=>?_
 obtain⟨hl,J,S,F',ds,Ω,fin,ff,rp,sto,r,Ω',hmr,k0⟩:=h;refine⟨_,hbody f cdv A outer s H E hr,?_⟩;have hpl:ps.length<=N.length:=by have:=congrArg List.length Sc.pre;rw[List.length_take] at this;omega
 have hdl:ds.length=ps.length:=by rw[<- rp.length];exact hl
 unfold mirE at hmr;rw[if_pos hdl] at hmr;have R:RM J S H F' K mg [] J S H (L2.start N vs) (startD N.length ds) Ω:=by
  refine⟨⟨?_,jao,fun b hb=>?_,fun i d hd _=>?_,fun i hi=>absurd hi (by simp),fun i hi=>absurd hi (by simp)⟩,RLe.refl _,fun b o _ h=>h,fun b h=>h,fun b h=>.inl h,fun i hi=>absurd hi (by simp),ff,by rw[ja8];exact sto⟩
  ·simp[L2.start,startD,rp.length]
  ·rcases un_t.mp hb with z|z
   ·exact fin b z
   ·exact sto.fin b z
  ·obtain⟨v,e,rv⟩:=rp.get (ji1 hd);exact⟨v,jk5 e,by rw[ja8];exact rv⟩
 rcases MS.b_inv hmr with ⟨o,Ω1,e1,hmr⟩|⟨y,e1,rfl⟩
 ·refine⟨J,S,H,F',J,S,_,Ω,R,.ok o,Ω1,e1,?_⟩
  cases o with
  | rt d =>
   cases hmr;exact fun v J' S' H' T rv=>k0 v J' S' H' T.rho T.same T.old T.new T.ff T.sto rv
  | nx Y =>
   cases hmr;exact fun J' S' Z' H' R' _ _=>k0 .non J' S' H' R'.rt.rho R'.rt.same R'.rt.old R'.rt.new R'.rt.ff R'.rt.sto (rep_non.mpr rfl)
  | bk Y=>cases hmr
  | ct Y=>cases hmr
 ·exact⟨J,S,H,F',J,S,_,Ω,R,.error y,_,e1,trivial⟩
theorem jj8{x:Str}{st:Stmt}{N ps:List Str}{k:Nat}{O':List Nat}{g:DSt->MS Out}(hf:jbh K mg x st ps)(S:FnScope N ps (jae st))
  (hbody:∀ (f:Addr) (cdv:Value) (A:Around) (outer:List Env) (s:Shared) (H:Hp) (E:XK),Room k (A.deeper (PyProof.Rows.envOfC x (jae st) s.heap.objs.size f cdv)) ->
   MSs (cxOf CX0 P w K mg base N x (jae st) f cdv A outer s H E).nox [] O' [] (jbp st) g):CalE P w K mg base (k+1) x ps.length (mirE ps.length N.length g):=by
 obtain⟨f,fd,hm,F,hb⟩:=hf;exact⟨⟨f,fd,ps,rfl,hm,F.kp,hb,fn_E F S hbody⟩,jzp⟩
structure MetAt(K:W.Frag)(mg:qc)(c x q:Str)(st:Stmt)(ps:List Str):Prop where
 ex:∃ C f fd,mg c=some (.ref C)/\Cls K C/\Meth K C x f/\Fun K x q st f fd/\Binds K fd ps []
structure IniAt(K:W.Frag)(mg:qc)(c q:Str)(st:Stmt)(ps:List Str):Prop where
 ex:∃ C f fd,mg c=some (.ref C)/\Mk K C f/\Fun K "__init__" q st f fd/\Binds K fd ps []
theorem jzh{m:List D->MS D}{H:Hp}{a:Addr}{ns:List Int}{Ω':Sto}(hS:SqL K H a (ns.map V.int))(h:m [.lst (ns.map .int)] []=some (.ok (.bl true),Ω')):spE K mg 1 m [.ref a] H (fun v _=>v=.bl true) fun _ _ _=>False:=by
 refine⟨rfl,fun _=>none,fun _=>false,fun _=>false,[.lst (ns.map .int)],[],(fun b hb=>by cases hb),(fun b hb=>by cases hb),Reps.cons (rep_lst.mpr ⟨a,_,rfl,?_,reps_ints.mpr rfl⟩) Reps.nil,⟨fun i so hi=>by simp at hi,fun i j a h=>(nomatch h),fun i _=>rfl,(fun b hb=>by cases hb),fun _ _ q=>q⟩,_,_,h,fun v J' S' H' _ _ _ _ _ _ r=>rep_bl.mp r⟩;have:hid H (un (fun _=>false) fun _=>false)=H:=by funext b;rfl
 rw[this];exact hS
end
noncomputable def jid(m:List D->MS D)(fl:DSt->MS (List D)):DSt->MS D:=fun Y=>(fl Y).b m
def jCv(m:List D->M D)(fl:DSt->MS (List D)):DSt->MS D:=fun Y=>(fl Y).b fun ds=>MS.l (m ds)
noncomputable def jC0(c x:Str)(m:List D->MS D)(i:Nat)(fl:DSt->MS (List D))(Y:DSt):MS D:=fun Ω=>match Ω[i]? with
 | some (.ins c' fs)=>if c'=c/\fs.lookup x=none then ((fl Y).b fun ds=>m (.obj i::ds)) Ω else none
 | _=>none
def jF8(c x:Str)(m:List D->MS D)(fo:DSt->MS D)(fl:DSt->MS (List D)):DSt->MS D:=fun Y=>(fo Y).b fun o=>match o with
 | .obj i=>jC0 c x m i fl Y
 | _=>fun _=>none
def jCx(c:Str)(m:List D->MS D)(ds:List D):MS D:=fun Ω=>((m (.obj Ω.length::ds)).b fun d=>match d with
 | .non=>MS.p (.obj Ω.length)
 | _=>fun _=>none) (Ω++[.ins c []])
def jF7(c:Str)(m:List D->MS D)(fl:DSt->MS (List D)):DSt->MS D:=fun Y=>(fl Y).b fun ds=>jCx c m ds
section
variable {X:Cx}{O:List Nat}{b e:Expr}{es:List Expr}{fl:DSt->MS (List D)}{pos p:Pos}{x:Str}{k n:Nat}
variable {Jz J:Rho}{Sz S F:qf}{Hz H:Hp}{Z:St}{Y:DSt}{Ω Ω':Sto}
theorem jEg{m:List D->MS D}{ds:List D}{vs:List V}{r:Except XD D}{Q:VK}{E:XK}(R:RM Jz Sz Hz F X.K X.mg O J S H Z Y Ω)(hl:ds.length=n)(hr:Reps J X.K (hid H (fob (un F S) Z O)) ds vs)(hm:m ds Ω=some (r,Ω'))
  (k:match (generalizing:=false) r with
   | .ok d=>∀ v J' S' H',RM Jz Sz Hz F X.K X.mg O J' S' H' Z Y Ω'->RLe J J'->Same (hid H (fob (un F S) Z O)) (hid H' (fob (un F S') Z O))->Rep J' X.K (hid H' (fob (un F S') Z O)) d v->Q v H'
   | .error _=>True):spE X.K X.mg n m vs H Q E:=by
 refine⟨by rw[hr.length];exact hl,J,S,fob F Z O,ds,Ω,fun b hb=>?_,fun b hb=>?_,by rw[jft];exact hr,by rw[jft];exact R.sto,r,Ω',hm,?_⟩
 ·intro z;have:=R.fresh z;rw[<- jft,un_t.mpr (.inl hb)] at this;cases this
 ·rcases fob_t.mp hb with z|z
  ·exact R.ff b z
  ·cases e:S b with
   | false=>rfl
   | true=>exact absurd z (R.base_S e)
 ·cases r with
  | error x=>trivial
  | ok d =>
   intro v J' S' H' l sm old new ff sto rv;obtain⟨t1,t2⟩:=R.call l sm old new ff sto;rw[jft] at rv;exact k v J' S' H' t1 l t2 rv
theorem jiw{m:List D->MS D}(C:CalE X.prog X.w X.K X.mg X.base k x n m)(hr:Room k X.A)(ha:MA X O (e::es) fl)(hg:autoParam (Gl X x) zau2._auto_1)(hdb:autoParam (qj x) zau1._auto_1)(he:autoParam (starEach (e::es) X.env=(false,eval e X.env)::starEach es X.env) zau2._auto_1)
  (hpl:autoParam ((backTo pos (starEach es X.env)).any (·.1)=false) zau2._auto_1):ME X O (.Call (.Name x p) (e::es) [] pos) (jid m fl):=by
 obtain⟨f,fd,ps,hl,hm,hk,hb,G⟩:=C.ex;rintro U s Z H Q I ⟨Jz,Sz,Hz,F,J,S,Y,Ω,R,r,Ω',hf,k⟩;refine jpw G hr hg hm hk hb .nil (fun _ _ _ _ _ _ _ z=>z.elim) ha hdb he hpl U s Z H Q I (E:=E0) ?_;rcases MS.b_inv hf with ⟨ds,Ω1,e1,hf⟩|⟨y,e1,rfl⟩
 ·refine⟨Jz,Sz,Hz,F,J,S,Y,Ω,R,.ok ds,Ω1,e1,fun vs J1 S1 H1 R1 l1 v1 r1=>?_⟩;show spE X.K X.mg n m (vs++[]) H1 Q E0;rw[List.append_nil];refine jEg R1 (C.ar ds Ω1 _ hf) r1 hf ?_
  cases r with
  | error y=>trivial
  | ok d=>exact fun v J2 S2 H2 R2 l2 v2 r2=>k v J2 S2 H2 R2 (l1.trans l2) (v1.trans v2) r2
 ·exact⟨Jz,Sz,Hz,F,J,S,Y,Ω,R,.error y,_,e1,trivial⟩
end
inductive tEI(K:W.Frag)(mg:qc)(O:List Nat)(f:DSt->MS (List D))(Z:St)(H:Hp)(Rk:It->Hp->Prop):Prop
 | mk (Jz:Rho) (Sz:qf) (Hz:Hp) (F:qf) (J:Rho) (S:qf) (Y:DSt) (Ω:Sto) (R:RM Jz Sz Hz F K mg O J S H Z Y Ω) (r:Except XD (List D)) (Ω':Sto) (hf:f Y Ω=some (r,Ω')) (k:match (generalizing:=false) r with
  | .ok ds=>∀ Jq J' S' H',RM Jz Sz Hz F K mg O J' S' H' Z Y Ω'->RLe J J'->Same (hid H (fob (un F S) Z O)) (hid H' (fob (un F S') Z O))->ItD J' K Jq ds (hid H' (fob (un F S') Z O))->Rk Jq H'
  | .error _=>True)
def MI(X:Cx)(O:List Nat)(tg iter:Expr)(f:DSt->MS (List D)):Prop:=PI X tg iter (tEI X.K X.mg O f)
section
variable {X:Cx}{O B:List Nat}{c o iter tg:Expr}{fi:DSt->MS (List D)}{pos:Pos}{g:DSt->MS Out}{f:Str}
theorem jkp{f:DSt->M (List D)}(h:DI X O E0 tg iter f):MI X O tg iter (lF f):=by
 rintro U s Z H Q I ⟨Jz,Sz,Hz,F,J,S,Y,Ω,R,r,Ω',hf,k⟩;obtain⟨hg,rfl⟩:=MS.l_inv hf;refine h U s Z H Q I ⟨J,_,un F S,Y,r,R.rs,hg,?_⟩
 cases r with
 | ok d=>exact fun Jq H' s' it=>k Jq J S H' (R.mono s') (RLe.refl _) (jan s') it
 | error x=>exact fun c dx H' _ z=>z.elim
theorem jq0{body:List Stmt}{h:D->DSt->Option DSt}(hp:PassesOwn (model X.prog X.w) X.A X.env X.xe)(hc:X.calm=true)(hi:MI X O tg iter fi)(hg:DG X O tg h)(hb:MSs X O O O body g)
  (hs:autoParam (∀ x,foldedSetIterable iter X.env x=pure x) zau3._auto_1):MSt X O O B (.For tg iter body [] pos) (eFor fi h g):=by
 rintro U s Z H Dn I ⟨Jz,Sz,Hz,F,J,S,Y,Ω,R,r,Ω',hgf,k⟩;refine jye hp hc hi hg hb hs U s Z H Dn I ?_;rcases MS.b_inv hgf with ⟨ds,Ω1,e1,hgf⟩|⟨y,e1,rfl⟩
 ·refine⟨Jz,Sz,Hz,F,J,S,Y,Ω,R,.ok ds,Ω1,e1,fun Jq J1 S1 H1 R1 l1 v1 it=>?_⟩;refine⟨fun i m Z' H'=>m=ds.length-i/\i<=ds.length/\∃ J' S' Y' Ω2,RM Jz Sz Hz F X.K X.mg O J' S' H' Z' Y' Ω2/\RLe J1 J'/\Same (hid H1 (fob (un F S1) Z O)) (hid H' (fob (un F S') Z' O))/\forE g h (ds.drop i) Y' Ω2=some (r,Ω'),
   ⟨ds.length,by simp,Nat.zero_le _,J1,S1,Y,Ω1,R1,RLe.refl _,Same.refl _,hgf⟩,?_⟩
  rintro i m Z' H' ⟨rfl,hil,J',S',Y',Ω2,R',l',f',hr⟩;obtain⟨j1,j2⟩:=it H' (fob (un F S') Z' O) i f' (fun p hp=>R'.fresh hp)
  by_cases hlt:i<ds.length
  ·obtain⟨go,yld⟩:=j1 hlt;refine .inr ⟨go,fun Z2 H2=>∃ J2 S2 Y2 Ω3,RM Jz Sz Hz F X.K X.mg O J2 S2 H2 Z2 Y2 Ω3/\RLe J1 J2/\Same (hid H1 (fob (un F S1) Z O)) (hid H2 (fob (un F S2) Z2 O))/\forE g h (ds.drop (i+1)) Y2 Ω3=some (r,Ω'),fun Z2 H2 ⟨J2,S2,Y2,Ω3,a1,a2,a3,a4⟩=>⟨ds.length-(i+1),by omega,rfl,hlt,J2,S2,Y2,Ω3,a1,a2,a3,a4⟩,fun x H2 y=>?_⟩;obtain⟨s2,d,hd,rd⟩:=yld x H2 y;have hdr:ds.drop i=d::ds.drop (i+1):=by
    rw[List.drop_eq_getElem_cons hlt];have:ds[i]=d:=by rw[zax hlt] at hd;exact zbz hd
    rw[this]
   rw[hdr] at hr;unfold forE at hr
   cases e2:h d Y' with
   | none=>rw[e2] at hr;cases hr
   | some Y1 =>
    rw[e2] at hr;dsimp only at hr;have R2:=R'.mono s2;have f2:Same (hid H1 (fob (un F S1) Z O)) (hid H2 (fob (un F S') Z' O)):=f'.trans (jan s2);refine⟨J',_,un F S',Y',d,Y1,R2.rs,rd.rho l',e2,fun Z3 ef R3=>?_⟩;have R3':RM Jz Sz Hz F X.K X.mg O J' S' H2 Z3 Y1 Ω2:=R2.next R3 (by rw[ef];exact Same.refl _);rcases MS.b_inv hr with ⟨o,Ω3,e3,hr⟩|⟨y,e3,rfl⟩
    ·refine⟨Jz,Sz,Hz,F,J',S',Y1,Ω2,R3',.ok o,Ω3,e3,?_⟩;rw[ef]
     cases o with
     | nx Y4=>exact fun J4 S4 Z4 H4 R4 l4 v4=>⟨J4,S4,Y4,Ω3,R4,l'.trans l4,f2.trans v4,hr⟩
     | ct Y4=>exact fun J4 S4 Z4 H4 R4 l4 v4=>⟨J4,S4,Y4,Ω3,R4,l'.trans l4,f2.trans v4,hr⟩
     | bk Y4=>cases hr;exact fun J4 S4 Z4 H4 R4 l4 v4=>k J4 S4 Z4 H4 R4 (l1.trans (l'.trans l4)) (v1.trans (f2.trans v4))
     | rt v=>cases hr;exact k
    ·exact⟨Jz,Sz,Hz,F,J',S',Y1,Ω2,R3',.error y,_,e3,trivial⟩
  ·have ei:i=ds.length:=by omega
   subst ei;rw[List.drop_length] at hr;cases hr;exact .inl ⟨j2 rfl,k J' S' Z' H' R' (l1.trans l') (v1.trans f')⟩
 ·exact⟨Jz,Sz,Hz,F,J,S,Y,Ω,R,.error y,_,e1,trivial⟩
end
structure ClsAt(K:W.Frag)(mg:qc)(c:Str)(fs:List Str):Prop where
 ok:∀ C,mg c=some (.ref C)->Cls K C/\∀ f∈fs,jxo K C f
section
end
def mB(f:DSt->MS D):DSt->MS Bool:=fun Y=>(f Y).b fun d=>match d with
 | .bl k=>MS.p k
 | _=>fun _=>none
section
variable {X:Cx}{O:List Nat}{a b:Expr}{fa fb:DSt->MS D}{pos:Pos}
theorem jC2{op:CmpOp}{g:D->D->Option D}{r:R2}(ho:OpR X (compareOp op) r)(hg:OpD X.K g r)(ha:ME X O a fa)(hb:ME X O b fb)(hm:behindInMarks op b=false):MT X O (.Compare a [op] [b] pos) (mB (m2 g fa fb)):=by
 rintro U s Z H Q I ⟨Jz,Sz,Hz,F,J,S,Y,Ω,R,rr,Ω',hf,k⟩;refine jux ho ha hb hm U s Z H Q I (jt7 (r:=r) hg ?_);rcases MS.b_inv hf with ⟨x,Ω1,e1,hf⟩|⟨x,e1,rfl⟩
 ·cases x with
  | bl kk=>cases hf;exact⟨Jz,Sz,Hz,F,J,S,Y,Ω,R,.ok (.bl kk),_,e1,fun v J' S' H' R' l sm rv=>⟨kk,rep_bl.mp rv,k J' S' H' R' l sm⟩⟩
  | _=>cases hf
 ·exact⟨Jz,Sz,Hz,F,J,S,Y,Ω,R,.error x,Ω',e1,k⟩
end
noncomputable def spA(K:W.Frag)(n:Nat)(m:List D->MS D):Sp:=fun vs H Q E=>∀ mg,spE K mg n m vs H Q E
noncomputable def FUEL:Nat:=Classical.choose (⟨100000,rfl⟩:∃ n:Nat,n=100000)
theorem jsi:FUEL=100000:=Classical.choose_spec (⟨100000,rfl⟩:∃ n:Nat,n=100000)
section
variable {Y:DSt}{fa fb:DSt->M D}{fl:DSt->M (List D)}{g:D->D->Option D}{u:D->Option D}{k:List D->Option D}{ta tb:DSt->M Bool}{g1 g2:DSt->M Out}{m:List D->M D}{ki:List D->Option (List D)}{fi:DSt->M (List D)}{tg:D->DSt->Option DSt}
@[simp] theorem jFp(i:Nat):fVar i Y=M.o (Y[i]?).join:=rfl
@[simp] theorem e_C(d:D):fC d Y=M.p d:=rfl
@[simp] theorem e_2:f2 g fa fb Y=(fa Y).b fun x=>(fb Y).b fun y=>M.o (g x y):=rfl
@[simp] theorem e_1:f1 u fa Y=(fa Y).b fun x=>M.o (u x):=rfl
def asB:Option D->M Bool
 | some (.bl b)=>M.p b
 | _=>none
@[simp] theorem jA6(b:Bool):asB (some (.bl b))=M.p b:=rfl
@[simp] theorem e_t2:t2 g fa fb Y=(fa Y).b fun x=>(fb Y).b fun y=>asB (g x y):=rfl
@[simp] theorem jFj:fNil Y=M.p []:=rfl
@[simp] theorem jlq:jac fa fl Y=(fa Y).b fun x=>(fl Y).b fun xs=>M.p (x::xs):=rfl
@[simp] theorem e_L:fL k fl Y=(fl Y).b fun xs=>M.o (k xs):=rfl
@[simp] theorem jBp:ja2 m fl Y=(fl Y).b m:=rfl
@[simp] theorem jFk:gNot (.bl b)=some (.bl !b):=rfl
@[simp] theorem jBw:tNot ta Y=(ta Y).b fun x=>M.p !x:=rfl
@[simp] theorem jBv:tAnd ta tb Y=(ta Y).b fun x=>if x=true then tb Y else M.p false:=rfl
@[simp] theorem jFn:tOr ta tb Y=(ta Y).b fun x=>if x=true then M.p true else tb Y:=rfl
@[simp] theorem e_if:fIf ta fa fb Y=(ta Y).b fun x=>if x=true then fa Y else fb Y:=rfl
def andB(b:D)(r:M D):M D:=match b with
 | .bl true=>r
 | .bl false=>M.p (.bl false)
 | _=>none
def orB(b:D)(r:M D):M D:=match b with
 | .bl true=>M.p (.bl true)
 | .bl false=>r
 | _=>none
@[simp] theorem andB_t(r:M D):andB (.bl true) r=r:=rfl
@[simp] theorem andB_f(r:M D):andB (.bl false) r=M.p (.bl false):=rfl
@[simp] theorem orB_t(r:M D):orB (.bl true) r=M.p (.bl true):=rfl
@[simp] theorem jGd(r:M D):orB (.bl false) r=r:=rfl
@[simp] theorem jFh:fAnd fa fb Y=(fa Y).b fun x=>andB x (fb Y):=rfl
@[simp] theorem e_or:fOr fa fb Y=(fa Y).b fun x=>orB x (fb Y):=rfl
@[simp] theorem jFo:tTru fa Y=(fa Y).b fun x=>M.o (truD x):=rfl
@[simp] theorem jEo(b:Bool):truD (.bl b)=some b:=rfl
@[simp] theorem jG5:truD .non=some false:=rfl
@[simp] theorem e_nx:gNx Y=M.p (.nx Y):=rfl
def seqO(g2:DSt->M Out):Out->M Out
 | .nx Y'=>g2 Y'
 | o=>M.p o
@[simp] theorem ju6(Y':DSt):seqO g2 (.nx Y')=g2 Y':=rfl
@[simp] theorem jAm(d:D):seqO g2 (.rt d)=M.p (.rt d):=rfl
@[simp] theorem jGr(Y':DSt):seqO g2 (.bk Y')=M.p (.bk Y'):=rfl
@[simp] theorem jGs(Y':DSt):seqO g2 (.ct Y')=M.p (.ct Y'):=rfl
@[simp] theorem jv7:gSeq g1 g2 Y=(g1 Y).b (seqO g2):=by
 show (g1 Y).b _=_;congr 1
@[simp] theorem jBu(i:Nat):gSet i fa Y=(fa Y).b fun d=>M.p (.nx (Y.set i (some d))):=rfl
@[simp] theorem jy0:gRet fa Y=(fa Y).b fun d=>M.p (.rt d):=rfl
@[simp] theorem e_drop:jFs fa Y=(fa Y).b fun _=>M.p (.nx Y):=rfl
@[simp] theorem jBs:gIf ta g1 g2 Y=(ta Y).b fun b=>if b=true then g1 Y else g2 Y:=rfl
@[simp] theorem e_brk:gBrk Y=M.p (.bk Y):=rfl
@[simp] theorem e_cnt:gCnt Y=M.p (.ct Y):=rfl
def appO(i:Nat)(Y:DSt)(d:D):Option D->M Out
 | some (.lst ds)=>if ds.length<sizeLine then M.p (.nx (Y.set i (some (.lst (ds++[d]))))) else none
 | _=>none
theorem jvi{i:Nat}{Y:DSt}{d:D}{ds:List D}(h:ds.length<sizeLine):appO i Y d (some (.lst ds))=M.p (.nx (Y.set i (some (.lst (ds++[d]))))):=if_pos h
@[simp] theorem jBo(i:Nat):gApp i fa Y=(fa Y).b fun d=>appO i Y d (Y[i]?).join:=rfl
@[simp] theorem jBr:gFor fi tg g1 Y=(fi Y).b fun ds=>forD g1 tg ds Y:=rfl
@[simp] theorem jyz:jca ki fl Y=(fl Y).b fun ds=>M.o (ki ds):=rfl
@[simp] theorem jBt:jcr fa Y=(fa Y).b fun d=>M.o (seqD d):=rfl
@[simp] theorem e_yes:tYes Y=M.p true:=rfl
@[simp] theorem jv6(d:D):outD (.rt d)=M.p d:=rfl
@[simp] theorem jE0(Y:DSt):outD (.nx Y)=M.p .non:=rfl
theorem jjc(N:Nat)(x0:D):mir 1 N g1 [x0]=(g1 (some x0::List.replicate (N-1) none)).b outD:=rfl
theorem jd0(N:Nat)(x0 x1:D):mir 2 N g1 [x0,x1]=(g1 (some x0::some x1::List.replicate (N-2) none)).b outD:=rfl
theorem jlr(N:Nat)(x0 x1 x2:D):mir 3 N g1 [x0,x1,x2]=(g1 (some x0::some x1::some x2::List.replicate (N-3) none)).b outD:=rfl
theorem jxw(N:Nat)(x0 x1 x2 x3:D):mir 4 N g1 [x0,x1,x2,x3]=(g1 (some x0::some x1::some x2::some x3::List.replicate (N-4) none)).b outD:=rfl
@[simp] theorem b_none{α β:Type}(f:α->M β):M.b none f=none:=rfl
@[simp] theorem jym{α β γ:Type}(m:M α)(f:α->M β)(h:β->M γ):(m.b f).b h=m.b fun a=>(f a).b h:=by
 cases m with
 | none=>rfl
 | some e=>cases e<;>rfl
@[simp] theorem jBq{own:Nat}{caps:qh}{tc:DSt->M Bool}:jce own caps fi tg tc fa Y=(fi Y).b fun ds=>M.o ((jb0 tg tc fa ds (jcf own caps Y)).bind jbi):=rfl
end
@[simp] theorem lt_int(i j:Int):gLt (.int i) (.int j)=some (.bl (decide (i<j))):=rfl
@[simp] theorem jCn(i j:Int):gLe (.int i) (.int j)=some (.bl (decide (i<=j))):=rfl
@[simp] theorem gt_int(i j:Int):gGt (.int i) (.int j)=some (.bl (decide (j<i))):=rfl
@[simp] theorem ge_int(i j:Int):gGe (.int i) (.int j)=some (.bl (decide (j<=i))):=rfl
@[simp] theorem add_int(i j:Int):gAdd (.int i) (.int j)=some (.int (i+j)):=rfl
@[simp] theorem sub_int(i j:Int):gSub (.int i) (.int j)=some (.int (i-j)):=rfl
@[simp] theorem neg_int(i:Int):gNeg (.int i)=some (.int (-i)):=rfl
theorem jba{i j:Int}(h:0<j):gMod (.int i) (.int j)=some (.int (i % j)):=if_pos h
def Bt(k:Nat)(i:Int):Prop:=i.natAbs<2 ^ k
theorem Bt.mono{a b:Nat}{i:Int}(h:Bt a i)(hab:a<=b):Bt b i:=zcy h (Nat.pow_le_pow_right (by decide) hab)
theorem Bt.mul{a b:Nat}{i j:Int}(h:Bt a i)(k:Bt b j):Bt (a+b) (i*j):=by
 unfold Bt at *;rw[Int.natAbs_mul,Nat.pow_add];exact Nat.mul_lt_mul'' h k
theorem Bt.add{a:Nat}{i j:Int}(h:Bt a i)(k:Bt a j):Bt (a+1) (i+j):=by
 unfold Bt at *;rw[Nat.pow_succ];omega
theorem Bt.sub{a:Nat}{i j:Int}(h:Bt a i)(k:Bt a j):Bt (a+1) (i-j):=by
 unfold Bt at *;rw[Nat.pow_succ];omega
theorem Bt.neg{a:Nat}{i:Int}(h:Bt a i):Bt a (-i):=by unfold Bt at *;omega
theorem Bt.big{k:Nat}{i:Int}(h:Bt k i)(hk:k<=100000):jg8 i=true:=by
 have h':=zcy h (Nat.pow_le_pow_right (by decide:2 > 0) hk);rw[<- jsh] at h';unfold jg8 BIG;rw[Bool.and_eq_true,decide_eq_true_eq,decide_eq_true_eq];omega
theorem jC3{a b:Nat}{i j:Int}(h:Bt a i)(k:Bt b j)(ha:autoParam (a<=100000) zau1._auto_1)(hb:autoParam (b<=100000) zau1._auto_1):gMul (.int i) (.int j)=some (.int (i*j)):=by
 have:(jg8 i&&jg8 j)=true:=by rw[h.big ha,k.big hb];rfl
 exact if_pos this
theorem jb6{i j:Int}(h:0<j)(h2:j<2 ^ 200):jd1 (.int i) (.int j)=some (.int (i / j)):=by
 refine if_pos ⟨h,?_⟩;unfold DIVB;have:(2 ^ 200:Nat)<=2 ^ 9000:=Nat.pow_le_pow_right (by decide) (by decide);rw[<- jjx] at this;omega
theorem jus{i:Int}{j:Int}(h:0<=j/\j<=1000/\-(2 ^ 60)<i/\i<2 ^ 60):gPow (.int i) (.int j)=some (.int (i ^ j.toNat)):=if_pos h
theorem atI_get{α:Type}{xs:List α}{j:Nat}{v:α}(h:xs[j]? = some v):atI xs (j:Int)=some v:=by
 have hj:=(zbc.mp h).1;unfold atI ixN;rw[if_pos (by omega),if_pos (by omega)];simpa using h
@[simp] theorem ix_t(ds:List D)(i:Int):gIx (.tup ds) (.int i)=atI ds i:=rfl
@[simp] theorem ix_l(ds:List D)(i:Int):gIx (.lst ds) (.int i)=atI ds i:=rfl
@[simp] theorem at0{α:Type}(x:α)(xs:List α):atI (x::xs) 0=some x:=by
 have:=atI_get (xs:=x::xs) (j:=0) (v:=x) rfl;simpa using this
@[simp] theorem at1{α:Type}(x y:α)(xs:List α):atI (x::y::xs) 1=some y:=by
 have:=atI_get (xs:=x::y::xs) (j:=1) (v:=y) rfl;simpa using this
@[simp] theorem at2{α:Type}(x y z:α)(xs:List α):atI (x::y::z::xs) 2=some z:=by
 have:=atI_get (xs:=x::y::z::xs) (j:=2) (v:=z) rfl;simpa using this
@[simp] theorem at3{α:Type}(x y z w:α)(xs:List α):atI (x::y::z::w::xs) 3=some w:=by
 have:=atI_get (xs:=x::y::z::w::xs) (j:=3) (v:=w) rfl;simpa using this
@[simp] theorem jF1(ds:List D):kLen [.lst ds]=some (.int ds.length):=rfl
@[simp] theorem jF2(ds:List D):kLen [.tup ds]=some (.int ds.length):=rfl
@[simp] theorem jAy(ds:List D):kTuple [.lst ds]=some (.tup ds):=rfl
@[simp] theorem jCp(ds:List D):kList [.lst ds]=some (.lst ds):=rfl
@[simp] theorem jD3(j:Int):ja9 [.int j]=some (jap 0 j.toNat):=rfl
@[simp] theorem jD4(i j:Int):ja9 [.int i,.int j]=some (jap i (j-i).toNat):=rfl
@[simp] theorem enum_l(xs:List D):jgo [.lst xs]=some (jdk 0 xs):=rfl
@[simp] theorem jEe(ds:List D):seqD (.lst ds)=some ds:=rfl
@[simp] theorem jGt(ds:List D):seqD (.tup ds)=some ds:=rfl
@[simp] theorem kmin(i j:Int):kMin [.int i,.int j]=some (.int (if j<i then j else i)):=rfl
@[simp] theorem jFz(b:Bool):kInt [.bl b]=some (.int (if b then 1 else 0)):=rfl
@[simp] theorem jG6(x y:D):jcy [x,y]=some (.tup [x,y]):=rfl
@[simp] theorem jG7(x y z:D):jcy [x,y,z]=some (.tup [x,y,z]):=rfl
@[simp] theorem tupD4(x y z w:D):jcy [x,y,z,w]=some (.tup [x,y,z,w]):=rfl
@[simp] theorem jF3:jbi []=some (.lst []):=rfl
@[simp] theorem jF4(x:D):jbi [x]=some (.lst [x]):=rfl
@[simp] theorem jF5(x y:D):jbi [x,y]=some (.lst [x,y]):=rfl
@[simp] theorem jF6(x y z:D):jbi [x,y,z]=some (.lst [x,y,z]):=rfl
theorem jko{ds:List D}(h:ds.length<=sizeLine):jbi ds=some (.lst ds):=if_pos h
@[simp] theorem jBz(i j:Int):gEq (.int i) (.int j)=some (.bl (i == j)):=rfl
@[simp] theorem jC5(i j:Int):gNe (.int i) (.int j)=some (.bl !(i == j)):=rfl
@[simp] theorem eq_bl(i j:Bool):gEq (.bl i) (.bl j)=some (.bl (i == j)):=rfl
theorem jxd(ns:List Int):kSum [.lst (ns.map .int)]=some (.int ns.sum):=by
 show (match seqD (.lst (ns.map D.int)) with|some ds=>(jiv ds).map fun (ns:List Int)=>D.int ns.sum|none=>none)=_;rw[jEe];dsimp only;rw[jtm];rfl
@[simp] theorem jph(i:Int):kIsi [.int i,.ty "int"]=some (.bl true):=rfl
@[simp] theorem jnz(i:Int):kIsi [.int i,.ty "bool"]=some (.bl false):=rfl
@[simp] theorem jpg(i:Bool):kIsi [.bl i,.ty "bool"]=some (.bl true):=rfl
@[simp] theorem jwd(i:List D):kIsi [.tup i,.ty "tuple"]=some (.bl true):=rfl
theorem jp6:∀ (xs ys:List D),zipD xs ys=(xs.zip ys).map fun p=>.tup [p.1,p.2]
 | [],_=>by simp[zipD]
 | _::_,[]=>by simp[zipD]
 | x::xs,y::ys=>by simp[zipD,jp6 xs ys]
theorem jmp{g:DSt->M Out}{tg:D->DSt->Option DSt}(I:List D->DSt->Prop)(h:∀ d ds Y,I (d::ds) Y->∃ Y1,tg d Y=some Y1/\∃ Y2,(g Y1=some (.ok (.nx Y2))\/g Y1=some (.ok (.ct Y2)))/\I ds Y2) :
  ∀ (ds:List D) (Y:DSt),I ds Y->∃ Y',forD g tg ds Y=some (.ok (.nx Y'))/\I [] Y'
 | [],Y,hi=>⟨Y,rfl,hi⟩
 | d::ds,Y,hi=>by
  obtain⟨Y1,e1,Y2,e2,i2⟩:=h d ds Y hi;obtain⟨Y',e3,i3⟩:=jmp I h ds Y2 i2;refine⟨Y',?_,i3⟩;unfold forD;rw[e1];dsimp only;rcases e2 with e2|e2<;>(rw[e2];exact e3)
@[simp] theorem jqt(i:Nat)(d:D)(Y:DSt):gName i d Y=some (Y.set i (some d)):=rfl
@[simp] theorem jE1(i j:Nat)(x y:D)(Y:DSt):jcq i j (.tup [x,y]) Y=some ((Y.set i (some x)).set j (some y)):=rfl
theorem jf9{g:DSt->M Out}{tg:D->DSt->Option DSt}(ds:List D)(I:Nat->DSt->Prop)
  (h:∀ (j:Nat) (hj:j<ds.length) (Y:DSt),I j Y->∃ Y1,tg ds[j] Y=some Y1/\∃ Y2,(g Y1=some (.ok (.nx Y2))\/g Y1=some (.ok (.ct Y2)))/\I (j+1) Y2) (Y:DSt) (h0:I 0 Y) :
  ∃ Y',forD g tg ds Y=some (.ok (.nx Y'))/\I ds.length Y':=by
 obtain⟨Y',e,j,hd,hj,hi⟩:=jmp (g:=g) (tg:=tg) (fun rem Y=>∃ j,rem=ds.drop j/\j<=ds.length/\I j Y) (fun d rem Y ⟨j,hr,hj,hi⟩=>by
  have hlt:j<ds.length:=by
   by_cases q:j<ds.length
   ·exact q
   ·rw[List.drop_eq_nil_of_le (by omega)] at hr;cases hr
  rw[List.drop_eq_getElem_cons hlt] at hr;obtain⟨rfl,rfl⟩:=List.cons.inj hr;obtain⟨Y1,e1,Y2,e2,i2⟩:=h j hlt Y hi;exact⟨Y1,e1,Y2,e2,j+1,rfl,hlt,i2⟩) ds Y ⟨0,rfl,Nat.zero_le _,h0⟩
 refine⟨Y',e,?_⟩;have:j=ds.length:=by
  have:=congrArg List.length hd;simp at this;omega
 rw[<- this];exact hi
@[simp] theorem jl0(lo:Int)(n:Nat):(jap lo n).length=n:=by simp[jap]
@[simp] theorem jr6(lo:Int)(n j:Nat)(h:j<(jap lo n).length):(jap lo n)[j]=.int (lo+j):=by simp[jap]
theorem jl1(n:Nat)(F:D->D):(jap 0 n).map F=(List.range n).map fun j=>F (.int (j:Nat)):=by
 unfold jap;rw[List.map_map];apply List.map_congr_left;intro a _;simp
section
variable {Y:DSt}{fa fb:DSt->M D}{fl:DSt->M (List D)}{g:D->D->Option D}{k:List D->Option D}
@[simp] theorem jFi(i:Nat):gAug i g fa Y=(M.o (Y[i]?).join).b fun x=>(fa Y).b fun y=>(M.o (g x y)).b fun d=>M.p (.nx (Y.set i (some d))):=rfl
@[simp] theorem jyt(i j:Int):gCat (.int i) (.int j)=some (.int (i+j)):=rfl
theorem ja6{a b:Nat}{i j:Int}(h:Bt a i)(k:Bt b j)(ha:autoParam (a<=100000) zau1._auto_1)(hb:autoParam (b<=100000) zau1._auto_1):jbj (.int i) (.int j)=some (.int (i*j)):=jC3 h k ha hb
theorem jq6{α:Type}(x:α):∀ n:Nat,(List.replicate n [x]).flatten=List.replicate n x
 | 0=>rfl
 | n+1=>by rw[List.replicate_succ,List.flatten_cons,jq6 x n];rfl
theorem jFm(x:D)(n:Nat)(hl:fl Y=M.p [x])(hb:fb Y=M.p (.int n))(hn:n<=1000):fRep fl fb Y=M.p (.lst (List.replicate n x)):=by
 unfold fRep;rw[hl,hb];have h1:([x]:List D).length<=sizeLine:=by show 1<=sizeLine;decide
 have h3:1000<=sizeLine:=by decide
 have h2:-(2 ^ 63)<=(n:Int)/\(n:Int)<2 ^ 63/\([x]:List D).length*(n:Int).toNat<=sizeLine:=⟨by omega,by omega,by simp;omega⟩
 rw[M.b_p,if_pos h1,M.b_p];dsimp only;rw[if_pos h2,jq6];rfl
@[simp] theorem e_asg(h:D->DSt->Option DSt):gAsg h fa Y=(fa Y).b fun d=>match h d Y with
 | some Y'=>M.p (.nx Y')
 | none=>none:=rfl
@[simp] theorem e_tup3(i j l:Nat)(x y z:D):jFt i j l (.tup [x,y,z]) Y=some (((Y.set i (some x)).set j (some y)).set l (some z)):=rfl
@[simp] theorem jy8(b:Bool):jFw [.bl b]=some (.int (if b then 1 else 0)):=rfl
theorem jo2:∀ bs:List Bool,blsD (bs.map .bl)=some bs
 | []=>rfl
 | b::bs=>by rw[List.map_cons];unfold blsD;rw[jo2 bs];rfl
theorem jyj(bs:List Bool):kAll [.lst (bs.map .bl)]=some (.bl (bs.all id)):=by
 show (blsD (bs.map D.bl)).map (fun ns=>D.bl (ns.all id))=_;rw[jo2];rfl
theorem jdz{c:DSt}{fe:DSt->M D}{α:Type}{K:α->D×D}{F:α->D}(ps:List α)(x y:Option D)(h:∀ p∈ps,fe (some (K p).1::some (K p).2::c)=some (.ok (F p))):jb0 (jcq 0 1) tYes fe (ps.map fun p=>.tup [(K p).1,(K p).2]) (x::y::c)=some (ps.map F):=by
 induction ps generalizing x y with
 | nil=>rfl
 | cons p ps ih =>
  rw[List.map_cons];unfold jb0;have e1:jcq 0 1 (.tup [(K p).1,(K p).2]) (x::y::c)=some (some (K p).1::some (K p).2::c):=rfl;rw[e1];dsimp only [tYes,M.p];rw[h p zaa];dsimp only;rw[ih (some (K p).1) (some (K p).2) fun e he=>h e (zaw _ he)];rfl
theorem jcu{c:DSt}{fe:DSt->M D}{α:Type}{K:α->D}{F:α->D}(ps:List α)(x:Option D)(h:∀ p∈ps,fe (some (K p)::c)=some (.ok (F p))):jb0 (gName 0) tYes fe (ps.map K) (x::c)=some (ps.map F):=by
 induction ps generalizing x with
 | nil=>rfl
 | cons p ps ih =>
  rw[List.map_cons];unfold jb0;have e1:gName 0 (K p) (x::c)=some (some (K p)::c):=rfl;rw[e1];dsimp only [tYes,M.p];rw[h p zaa];dsimp only;rw[ih (some (K p)) fun e he=>h e (zaw _ he)];rfl
theorem joz(as bs:List Int):zipD (as.map .int) (bs.map .int)=(as.zip bs).map fun p=>.tup [.int p.1,.int p.2]:=by
 rw[jp6,List.zip_map,List.map_map];rfl
end
noncomputable def jyo{α β:Type}(r:Option (Except XD α×Sto))(f:α->MS β):Option (Except XD β×Sto):=match r with
 | none=>none
 | some (.error x,Ω')=>some (.error x,Ω')
 | some (.ok a,Ω')=>f a Ω'
section
variable {α β:Type}{Ω Ω':Sto}{Y:DSt}{fa fb fo:DSt->MS D}{fl:DSt->MS (List D)}{ta:DSt->MS Bool}{g1 g2:DSt->MS Out}{g:D->D->Option D}
@[simp] theorem s_b(m:MS α)(f:α->MS β):(m.b f) Ω=jyo (m Ω) f:=by
 unfold MS.b jyo
 cases m Ω with
 | none=>rfl
 | some p=>obtain⟨q,Ω1⟩:=p;cases q<;>rfl
@[simp] theorem jm3(a:α)(f:α->MS β):jyo (some (.ok a,Ω')) f=f a Ω':=rfl
@[simp] theorem s_p(a:α):MS.p a Ω=some (.ok a,Ω):=rfl
@[simp] theorem s_lp(a:α):MS.l (M.p a) Ω=some (.ok a,Ω):=rfl
@[simp] theorem s_lok(a:α):MS.l (some (.ok a):M α) Ω=some (.ok a,Ω):=rfl
@[simp] theorem s_o(a:α):MS.o (some a) Ω=some (.ok a,Ω):=rfl
@[simp] theorem s_lF(f:DSt->M α):lF f Y=MS.l (f Y):=rfl
@[simp] theorem s_get(cs:List Str)(f:Str):mGet cs f fa Y=(fa Y).b fun x=>getO cs f x:=rfl
@[simp] theorem s_cons:jzk fa fl Y=(fa Y).b fun x=>(fl Y).b fun xs=>MS.p (x::xs):=rfl
@[simp] theorem s_2:m2 g fa fb Y=(fa Y).b fun x=>(fb Y).b fun y=>MS.o (g x y):=rfl
@[simp] theorem s_L(k:List D->Option D):mL k fl Y=(fl Y).b fun xs=>MS.o (k xs):=rfl
@[simp] theorem jGn(m:List D->M D):jCv m fl Y=(fl Y).b fun ds=>MS.l (m ds):=rfl
@[simp] theorem jEa(m:List D->MS D):jid m fl Y=(fl Y).b m:=rfl
@[simp] theorem jGq(i:Nat):eSet i fa Y=(fa Y).b fun d=>MS.p (.nx (Y.set i (some d))):=rfl
@[simp] theorem jGp:eRet fa Y=(fa Y).b fun d=>MS.p (.rt d):=rfl
@[simp] theorem jEb:jv5 fa Y=(fa Y).b fun _=>MS.p (.nx Y):=rfl
@[simp] theorem s_put(cs:List Str)(f:Str):ePut cs f fo fa Y=(fa Y).b fun d=>(fo Y).b fun x=>(putO cs f x d).b fun _=>MS.p (.nx Y):=rfl
@[simp] theorem s_if:eIf ta g1 g2 Y=(ta Y).b fun b=>if b=true then g1 Y else g2 Y:=rfl
@[simp] theorem s_nx:eNx Y=MS.p (.nx Y):=rfl
@[simp] theorem s_not:mNot ta Y=(ta Y).b fun x=>MS.p !x:=rfl
@[simp] theorem s_tru:mTru fa Y=(fa Y).b fun x=>MS.o (truD x):=rfl
def asBS:D->MS Bool
 | .bl k=>MS.p k
 | _=>fun _=>none
@[simp] theorem jFa(k:Bool):asBS (.bl k)=MS.p k:=rfl
@[simp] theorem s_B:mB fa Y=(fa Y).b asBS:=by
 show (fa Y).b _=_;congr 1
def seqS(g2:DSt->MS Out):Out->MS Out
 | .nx Y'=>g2 Y'
 | o=>MS.p o
@[simp] theorem jAn(Y':DSt):seqS g2 (.nx Y')=g2 Y':=rfl
@[simp] theorem jAo(d:D):seqS g2 (.rt d)=MS.p (.rt d):=rfl
@[simp] theorem jEd:eSeq g1 g2 Y=(g1 Y).b (seqS g2):=by
 show (g1 Y).b _=_;congr 1
@[simp] theorem jE3(d:D):outE (.rt d)=MS.p d:=rfl
@[simp] theorem jE2(Y:DSt):outE (.nx Y)=MS.p .non:=rfl
theorem ju2(N:Nat)(x0:D):mirE 1 N g1 [x0]=(g1 (some x0::List.replicate (N-1) none)).b outE:=rfl
theorem jEc(N:Nat)(x0 x1:D):mirE 2 N g1 [x0,x1]=(g1 (some x0::some x1::List.replicate (N-2) none)).b outE:=rfl
theorem jyf(N:Nat)(x0 x1 x2:D):mirE 3 N g1 [x0,x1,x2]=(g1 (some x0::some x1::some x2::List.replicate (N-3) none)).b outE:=rfl
@[simp] theorem s_meth(c x:Str)(m:List D->MS D):jF8 c x m fo fl Y=(fo Y).b fun o=>match o with
 | .obj i=>jC0 c x m i fl Y
 | _=>fun _=>none:=rfl
@[simp] theorem s_make(c:Str)(m:List D->MS D):jF7 c m fl Y=(fl Y).b fun ds=>jCx c m ds:=rfl
@[simp] theorem jGo(fi:DSt->MS (List D))(tg:D->DSt->Option DSt):eFor fi tg g1 Y=(fi Y).b fun ds=>forE g1 tg ds Y:=rfl
end
section
variable {X:Cx}{O:List Nat}{E:XK}{b:Expr}{fb:DSt->M D}{pos:Pos}
def kAny:List D->Option D
 | [.lst ds]=>(blsD ds).map fun ns=>.bl (ns.any id)
 | _=>none
theorem jsk(ns:List Bool):(List.range ns.length).any (fun i=>ns.getD i false)=ns.any id:=by
 induction ns with
 | nil=>rfl
 | cons n ns ih =>
  rw[List.length_cons,List.range_succ_eq_map,List.any_cons,List.any_map,List.any_cons];congr 1
theorem jnl(hc:X.calm=true):CallR X (.builtin "any") (fun xs H Q=>∃ p,∃ ns:List Bool,xs=[.ref p]/\SqL X.K H p (ns.map V.bl)/\Q (.bl (ns.any id)) H):=by
 intro U s Z H xs us Q I r h;obtain⟨p,ns,rfl,hq,q⟩:=h;obtain⟨u,rfl,rx⟩:=r.one;cases rx;obtain⟨its,rv,src,hz⟩:=I.list hq;have hl:=rv.length;rw[zav] at hl;have hh:X.A.in1.handled=none:=I.ok.hd hc;have src':s.heap.IsList p its.toArray:=src.isList;have hp:p<s.heap.objs.size:=by obtain⟨o,e,_⟩:=src';exact zbw e
 refine call_any_walk ?_;refine wpAny_pyIter_list src' ?_;refine⟨_,_,_,_,_,_,(fun i=>ns.getD i false),rfl,Walks.list hh s.heap.objs.size p (zcb hp) its.toArray,⟨⟨_,zbv _ rfl,rfl,rfl⟩,src'.at fun o e=>zaz _ e⟩,fun i v s' Q' E' hP hQ=>?_,fun h' tk kp=>?_⟩
 ·have e:its.toArray[i]? = some v:=hP;have hi:i<ns.length:=by rw[hl];have:=(Array.getElem?_eq_some_iff.mp e).1;simpa using this
  obtain⟨v',e1,r1⟩:=rv.get (i:=i) (x:=.bl ns[i]) (by rw[zbb,zax hi];rfl);have:v=v':=by
   have e':its[i]? = some v:=by simpa using e
   rw[e'] at e1;exact zbz e1
  subst this;have r1':v=.bool ns[i]:=r1;subst r1';refine wpAny_truthy_bool ?_;dsimp only at hQ;rw[zbx,zax hi] at hQ;exact hQ
 ·refine⟨.bl (ns.any id),H,I.kept fun b o e=>kp b o ?_ (zaz _ e),?_,q⟩
  ·intro z;have:b=s.heap.objs.size:=by simpa using z
   rw[this] at e;exact absurd (zbw e) (Nat.lt_irrefl _)
  ·have:its.toArray.size=ns.length:=by rw[zby];omega
   rw[this,jsk];rfl
theorem jsr:CaD X.K kAny (fun xs H Q=>∃ p,∃ ns:List Bool,xs=[.ref p]/\SqL X.K H p (ns.map V.bl)/\Q (.bl (ns.any id)) H):=by
 intro xs d hd J H G us Q hG ru k;unfold kAny at hd
 split at hd
 ·rename_i ds
  cases e:blsD ds with
  | none=>rw[e] at hd;cases hd
  | some ns =>
   rw[e] at hd;cases hd;obtain⟨v,rfl,q⟩:=ji0 ru;obtain⟨l,ys,rfl,q1,q2⟩:=rep_lst.mp q;rw[jo1 e] at q2;rw[reps_bls.mp q2] at q1;exact⟨l,ns,rfl,jdi jao q1,k _ H (Same.refl H) (rep_bl.mpr rfl)⟩
 ·cases hd
theorem jyk(bs:List Bool):kAny [.lst (bs.map .bl)]=some (.bl (bs.any id)):=by
 show (blsD (bs.map D.bl)).map (fun ns=>D.bl (ns.any id))=_;rw[jo2];rfl
theorem js2(i:Nat){x:Str}{p:Pos}(ho:O.contains i=true)(hb:DE X O E b fb)(hN:autoParam (X.N[i]? = some x) zau2._auto_1)(hv:autoParam (Vis X.env.scope x) zau4._auto_1)
  (hd:autoParam (qj x) zau1._auto_1) (hcd:autoParam ((x == ("__classdict__":Str))=false) zau1._auto_1) (hs:autoParam (jl6 b) zau5._auto_1):DE X O E (.Subscript (.Name x p) b pos) (f2 gIx (fVar i) fb):=by
 rintro U s Z H Q I ⟨J,Hz,F,Y,r,R,hf,k⟩;have ho':i∈O:=zcx.mp ho;obtain⟨l,xs,ds,q1,q2,q3,q4,q5⟩:=R.own i ho';refine jz5 jah (jlz hN hv hd hcd) hb hs U s Z H Q I ⟨.ref l,q2,?_⟩;have e0:fVar i Y=some (.ok (.lst ds)):=by unfold fVar;rw[q1];rfl
 rcases M.b_inv hf with ⟨x,e1,hf⟩|⟨x,e1,rfl⟩
 ·rw[e0] at e1;cases e1;rcases M.b_inv hf with ⟨y,e2,hf⟩|⟨y,e2,rfl⟩
  ·refine⟨J,Hz,F,Y,.ok y,R,e2,fun v H2 s2 r2=>?_⟩;obtain⟨d,hd,rfl⟩:=M.o_inv hf;unfold gIx at hd
   split at hd
   ·rename_i z;cases z
    obtain⟨w,e,r⟩:=jp0 q5 hd;exact .inl ⟨l,xs,_,w,rfl,rep_int.mp r2,SqL.of (s2 _ _ q3),e,k w H2 s2 (r.mono (jan s2))⟩
   ·rename_i z;cases z
   ·rename_i z;cases z
   ·cases hd
  ·exact⟨J,Hz,F,Y,.error y,R,e2,k⟩
 ·rw[e0] at e1;cases e1
end
theorem jAc(own:Nat)(caps:qh)(Y:DSt):jcf own caps Y=List.replicate own none++caps.map fun p=>(Y[p.2]?).join:=rfl
theorem jEz(xs ys:List D):jcb [.tup xs,.tup ys]=some (zipD xs ys):=rfl
theorem jvh(xs ys:List D):jcb [.tup xs,.lst ys]=some (zipD xs ys):=rfl
theorem jEy(xs ys:List D):jcb [.lst xs,.tup ys]=some (zipD xs ys):=rfl
theorem jyh(xs ys:List D):jcb [.lst xs,.lst ys]=some (zipD xs ys):=rfl
theorem jFl{Y:DSt}{fl:DSt->M (List D)}(i j:Nat){x y:D}(h:fl Y=M.p [x,y]):gPar i j fl Y=some (.ok (.nx ((Y.set i (some x)).set j (some y)))):=by unfold gPar;rw[h];rfl
theorem jGb(i j:Bool):gNe (.bl i) (.bl j)=some (.bl !(i == j)):=rfl
theorem jq2{α:Type}{f:α->D}:∀ {xs:List α},(∀ x∈xs,okD (f x)=true)->okDs (xs.map f)=true
 | [],_=>by rw[List.map_nil];unfold okDs;rfl
 | x::xs,h=>by rw[List.map_cons];unfold okDs;rw[h x zaa,jq2 fun y hy=>h y (zaw _ hy)];rfl
theorem jnq{α:Type}{f:α->D}{k:Nat}:∀ {xs:List α},(∀ x∈xs,depD (f x)<=k)->depDs (xs.map f)<=k
 | [],_=>by rw[List.map_nil];unfold depDs;omega
 | x::xs,h=>by
  rw[List.map_cons];unfold depDs
  have h1:=h x zaa;have h2:=jnq (f:=f) (k:=k) (xs:=xs) fun y hy=>h y (zaw _ hy)
  omega
theorem ja5{g1 g2:DSt->M Out}{Y Y':DSt}(h:g1 Y=some (.ok (.nx Y'))):gSeq g1 g2 Y=g2 Y':=by rw[jv7,h,M.b_ok,ju6]
theorem w_if{t:DSt->M Bool}{g1 g2:DSt->M Out}{Y:DSt}{b:Bool}(h:t Y=some (.ok b)):gIf t g1 g2 Y=if b=true then g1 Y else g2 Y:=by rw[jBs,h,M.b_ok]
theorem jgk{t:DSt->M Bool}{g1 g2:DSt->M Out}{Y:DSt}(h:t Y=some (.ok false)):gSeq (gIf t g1 gNx) g2 Y=g2 Y:=ja5 (by rw[w_if h,if_neg (by decide)];rfl)
theorem jk7{t:DSt->M Bool}{g1:DSt->M Out}{Y:DSt}(h:t Y=some (.ok false)):gIf t g1 gNx Y=some (.ok (.nx Y)):=by rw[w_if h,if_neg (by decide)];rfl
theorem joy{t:DSt->M Bool}{fa:DSt->M D}{g2:DSt->M Out}{Y:DSt}{d:D}(h:t Y=some (.ok true))(hd:fa Y=some (.ok d)):gSeq (gIf t (gRet fa) gNx) g2 Y=some (.ok (.rt d)):=by
 rw[jv7,w_if h,if_pos rfl,jy0,hd,M.b_ok];rfl
theorem jjn{fa:DSt->M D}{Y:DSt}{d:D}(hd:fa Y=some (.ok d)):gRet fa Y=some (.ok (.rt d)):=by rw[jy0,hd,M.b_ok];rfl
theorem jfy{fa:DSt->M D}{Y:DSt}{d:D}(i:Nat)(hd:fa Y=some (.ok d)):gSet i fa Y=some (.ok (.nx (Y.set i (some d)))):=by rw[jBu,hd,M.b_ok];rfl
theorem jew{fi:DSt->M (List D)}{tg:D->DSt->Option DSt}{g:DSt->M Out}{Y:DSt}{ds:List D}(h:fi Y=some (.ok ds)):gFor fi tg g Y=forD g tg ds Y:=by rw[jBr,h,M.b_ok]
theorem jm8{fa:DSt->M D}{Y:DSt}{d:D}{ds:List D}(i:Nat)(hd:fa Y=some (.ok d))(hi:Y[i]? = some (some (.lst ds)))(hl:ds.length<=100000):gApp i fa Y=some (.ok (.nx (Y.set i (some (.lst (ds++[d])))))):=by
 rw[jBo,hd,M.b_ok,hi];exact jvi (by have:=sizeLine_eq;omega)
theorem jcv{g:DSt->M Out}{tg:D->DSt->Option DSt}{d:D}{ds:List D}{Y Y1 Y2:DSt}(h1:tg d Y=some Y1)(h2:g Y1=some (.ok (.nx Y2))):forD g tg (d::ds) Y=forD g tg ds Y2:=by
 conv=>lhs;unfold forD
 rw[h1];dsimp only;rw[h2];rfl
theorem jB0{g:DSt->M Out}{tg:D->DSt->Option DSt}{d:D}{ds:List D}{Y Y1:DSt}{v:D}(h1:tg d Y=some Y1)(h2:g Y1=some (.ok (.rt v))):forD g tg (d::ds) Y=some (.ok (.rt v)):=by
 conv=>lhs;unfold forD
 rw[h1];dsimp only;rw[h2];rfl
theorem w_go{t:DSt->M Bool}{g:DSt->M Out}{k:Nat}{Y Y':DSt}(h1:t Y=some (.ok true))(h2:g Y=some (.ok (.nx Y'))):jdm t g (k+1) Y=jdm t g k Y':=by
 conv=>lhs;unfold jdm
 rw[h1,M.b_ok,if_pos rfl,h2,M.b_ok]
theorem jsg{t:DSt->M Bool}{g:DSt->M Out}{k:Nat}{Y:DSt}(h1:t Y=some (.ok false)):jdm t g (k+1) Y=some (.ok (.nx Y)):=by
 conv=>lhs;unfold jdm
 rw[h1,M.b_ok,if_neg (by decide)];rfl
theorem jcz{ds:List D}(h:ds.length<=1000):jbi ds=some (.lst ds):=jko (zez h (by decide))
noncomputable def stp:=And.intro (@if_true.{1}) <| And.intro (@if_false.{1}) <| And.intro (@Bool.false_eq_true) <| And.intro (@jv7) <| And.intro (@jBu) <| And.intro (@e_2) <| And.intro (@e_1) <| And.intro (@e_t2) <| And.intro (@jy0) <| And.intro (@jBs) <| And.intro (@jBr) <| And.intro (@jyz) <| And.intro (@jBt) <| And.intro (@jBq) <| And.intro (@jBp) <| And.intro (@jlq) <| And.intro (@jFp) <| And.intro (@jFj) <| And.intro (@e_C) <| And.intro (@e_L) <| And.intro (@e_if) <| And.intro (@jFo) <| And.intro (@jBv) <| And.intro (@jFn) <| And.intro (@jBw) <| And.intro (@jFk) <| And.intro (@e_nx) <| And.intro (@jFi) <| And.intro (@jBo) <| And.intro (@jFh) <| And.intro (@e_or) <| And.intro (@M.o_some) <| And.intro (@M.b_p) <| And.intro (@M.b_ok) <| And.intro (@jym) <| And.intro (@ju6) <| And.intro (@jAm) <| And.intro (@jv6) <| And.intro (@ix_t) <| And.intro (@ix_l) <| And.intro (@at0) <| And.intro (@at1) <| And.intro (@at2) <| And.intro (@at3) <| And.intro (@jEe) <| And.intro (@jGt) <| And.intro (@jAy) <| And.intro (@jCp) <| And.intro (@jF1) <| And.intro (@jF2) <| And.intro (@jG6) <| And.intro (@jG7) <| And.intro (@jF3) <| And.intro (@jF4) <| And.intro (@jF5) <| And.intro (@jF6) <| And.intro (@jyt) <| And.intro (@sub_int) <| And.intro (@neg_int) <| And.intro (@jBz) <| And.intro (@jC5) <| And.intro (@jGb) <| And.intro (@lt_int) <| And.intro (@jCn) <| And.intro (@gt_int) <| And.intro (@ge_int) <| And.intro (@jA6) <| And.intro (@jEo) <| And.intro (@jD3) <| And.intro (@jD4) <| And.intro (@Int.toNat_natCast) <| And.intro (@joz) <| And.intro (@jAc) <| And.intro (@jEz) <| And.intro (@jvh) <| And.intro (@jEy) <| And.intro (@jyh) <| And.intro (@jph) <| And.intro (@jnz) <| And.intro (@jpg) <| And.intro (@jy8) <| And.intro (@List.replicate_succ.{0}) <| And.intro (@List.replicate_zero.{0}) <| And.intro (@List.set_cons_succ.{0}) <| And.intro (@List.set_cons_zero.{0}) <| And.intro (@List.getElem?_cons_zero.{0}) <| And.intro (@List.getElem?_cons_succ.{0}) <| And.intro (@Option.join_some.{0}) <| And.intro (@List.map_nil.{0,0}) <| And.intro (@List.map_cons.{0,0}) <| And.intro (@List.append_nil.{0}) <| And.intro (@List.cons_append.{0}) <| And.intro (@List.nil_append.{0}) <| And.intro (@Option.bind_some.{0,0}) <| True.intro
theorem jA5{α:Type}(xs:List α)(f:α->Bool):kAll [.lst (xs.map fun x=>.bl (f x))]=some (.bl (xs.all f)):=by
 have:(xs.map fun x=>D.bl (f x))=(xs.map f).map .bl:=by rw[List.map_map];rfl
 rw[this,jyj,List.all_map];rfl
theorem jxq{α:Type}(xs:List α)(f:α->Bool):kAny [.lst (xs.map fun x=>.bl (f x))]=some (.bl (xs.any f)):=by
 have:(xs.map fun x=>D.bl (f x))=(xs.map f).map .bl:=by rw[List.map_map];rfl
 rw[this,jyk,List.any_map];rfl
theorem jp3{α:Type}(xs:List α)(f:α->Int):kSum [.lst (xs.map fun x=>.int (f x))]=some (.int (xs.map f).sum):=by
 have:(xs.map fun x=>D.int (f x))=(xs.map f).map .int:=by rw[List.map_map];rfl
 rw[this,jxd]
theorem jk8{α β:Type}(f:α->D)(g:β->D)(as:List α)(bs:List β):zipD (as.map f) (bs.map g)=(as.zip bs).map fun p=>.tup [f p.1,g p.2]:=by
 rw[jp6,List.zip_map,List.map_map];rfl
theorem js6{k:Nat}{a g:Int}(h:Bt k a)(hg:0<g):Bt k (a / g):=by
 have h1:a / g<=(a.natAbs:Int):=Int.ediv_le_of_le_mul hg (by
  have:=Int.mul_le_mul_of_nonneg_left (show (1:Int)<=g by omega) (show (0:Int)<=(a.natAbs:Int) by omega);omega)
 have h2:-(a.natAbs:Int)<=a / g:=Int.le_ediv_of_mul_le hg (by
  have:=Int.mul_le_mul_of_nonneg_left (show (1:Int)<=g by omega) (show (0:Int)<=(a.natAbs:Int) by omega);rw[Int.neg_mul];omega)
 unfold Bt at *;omega
end DL
namespace L2
open PyProof.Rows
section
end
end L2
namespace DL
open L2
section
end
section
variable {Jz J J':Rho}{Sz S S' F:qf}{Hz H:Hp}{K:W.Frag}{mg:qc}{O:List Nat}{Z:St}{Y:DSt}{Ω:Sto}
theorem SOk.no_tup{J:Rho}{S:qf}{K:W.Frag}{mg:qc}{H Hv:Hp}{a:Addr}{so:SO}(h:SOk J S K mg H Hv a so)(xs:List V):H a≠some (.tup xs):=fun q=>by
 cases so with
 | ins c fs =>
  obtain⟨_,_,_,_,p,_⟩:=h;rw[q] at p;cases p
 | lst ds =>
  obtain⟨_,p,_⟩:=h;rw[q] at p;cases p
 | tab _ _ _ _ =>
  obtain⟨_,p,_⟩:=h;rw[q] at p;cases p
 | dct _ =>
  obtain⟨_,p,_⟩:=h;rw[q] at p;cases p
 | exc c j =>
  cases h with
  | no f C h1 h2=>rw[q] at h2;exact jEx (zbz h2).symm
  | yes f j C dx h1 h2 h3=>rw[q] at h3;exact jEx (zbz h3).symm
 | xd fs =>
  obtain⟨_,p,_⟩:=h;rw[q] at p;exact jG9 (zbz p).symm
theorem RM.putS(R:RM Jz Sz Hz F K mg O J S H Z Y Ω){i:Nat}{a:Addr}{so0 so':SO}{o0 o':HO}(hi:Ω[i]? = some so0)(ha:J i=some a)(hS:S a=true)(hH:H a=some o0)(hno:∀ y,HO.own y≠o0)(hr:SOk J S K mg (upd H a o') (hid H (fob (un F S) Z O)) a so') :
  RM Jz Sz Hz F K mg O J S (upd H a o') Z Y (Ω.set i so')/\hid (upd H a o') (fob (un F S) Z O)=hid H (fob (un F S) Z O):=by
 have hF:un F S a=true:=un_t.mpr (.inr hS);have hh:hid (upd H a o') (fob (un F S) Z O)=hid H (fob (un F S) Z O):=jc1 (jg9 a hF);have il:i<Ω.length:=(zbc.mp hi).1;refine⟨⟨R.rs.updF hF,R.rho,fun b o h1 h2=>?_,R.old,R.new,R.own0,R.ff,?_⟩,hh⟩
 ·have hb:b≠a:=by
   rintro rfl;rcases R.new b hS with q|q
   ·rw[q] at h1;cases h1
   ·rw[q] at h2;cases h2
  rw[jar hb];exact R.same b o h1 h2
 ·rw[hh];refine⟨fun j so hj=>?_,R.sto.inj,fun j hj=>R.sto.top j (by simpa using hj),fun b hb=>jfu (R.sto.fin b hb),jou R.sto.tv fun xs z=>hr.no_tup xs (by rw[jaq,z])⟩
  by_cases hji:j=i
  ·subst hji;rw[zcv il] at hj;cases hj;exact⟨a,ha,hS,hr⟩
  ·rw[zba (Ne.symm hji)] at hj;obtain⟨a',q1,q2,q3⟩:=R.sto.ats j so hj;have ne:a'≠a:=by
    rintro rfl;exact hji (R.sto.inj j i a' q1 ha)
   refine⟨a',q1,q2,?_⟩
   cases so with
   | ins c' fs' =>
    obtain⟨C',dx',vfs',p1,p2,p3,p4,p5⟩:=q3;have nd:dx'≠a:=jC6 p3 hH (hno _);exact⟨C',dx',vfs',p1,by rw[jar ne];exact p2,by rw[jar nd];exact p3,p4,p5⟩
   | lst ds0 =>
    obtain⟨xs0,p1,p2⟩:=q3;exact⟨xs0,by rw[jar ne];exact p1,p2⟩
   | tab _ _ _ _ =>
    obtain⟨ps,p1,p2,p3⟩:=q3;exact⟨ps,by rw[jar ne];exact p1,p2,p3⟩
   | dct _ =>
    obtain⟨vk,p1,p2,p3⟩:=q3;exact⟨vk,by rw[jar ne];exact p1,p2,p3⟩
   | exc c j=>exact ExcOk.mono (fun _ _ z=>z) (jar ne) q3
   | xd fs =>
    obtain⟨vfs,p1,p2⟩:=q3;exact⟨vfs,by rw[jar ne];exact p1,p2⟩
theorem RM.newS(R:RM Jz Sz Hz F K mg O J S H Z Y Ω){x:Addr}{nso:SO}{no:HO}(hx:H x=none)(hr:∀ J' S' Hv',RLe J J'->Same (hid H (fob (un F S) Z O)) Hv'->SOk J' S' K mg (upd H x no) Hv' x nso) :
  RM Jz Sz Hz F K mg O (addR J Ω.length x) (addS S x x) (upd H x no) Z Y (Ω++[nso])/\RLe J (addR J Ω.length x) /\
   Same (hid H (fob (un F S) Z O)) (hid (upd H x no) (fob (un F (addS S x x)) Z O)):=by
 have top:=R.sto.top Ω.length (zac _);have l:RLe J (addR J Ω.length x):=fun i a h=>by
  unfold addR
  by_cases e:i=Ω.length
  ·subst e;rw[top] at h;cases h
  ·rw[if_neg e];exact h
 have sm:Same H (upd H x no):=jax hx;have old:∀ b,S b=true->addS S x x b=true:=fun b h=>addS_t.mpr (.inl h)
 have new:∀ b,addS S x x b=true->S b=true\/H b=none:=fun b h=>by
  rcases addS_t.mp h with q|rfl|rfl
  ·exact .inl q
  ·exact .inr hx
  ·exact .inr hx
 have ff:∀ b,fob F Z O b=true->addS S x x b=false:=fun b h=>by
  have h2:fob (un F S) Z O b=true:=by rw[<- jft];exact un_t.mpr (.inl h)
  cases e:addS S x x b with
  | false=>rfl
  | true =>
   rcases addS_t.mp e with q|rfl|rfl
   ·rcases fob_t.mp h with z|z
    ·rw[R.ff b z] at q;cases q
    ·exact absurd z (R.base_S q)
   ·rw[R.fresh hx] at h2;cases h2
   ·rw[R.fresh hx] at h2;cases h2
 have keep:∀ b,S b=true->(upd H x no) b=H b:=R.at_store sm;have vis0:Same (hid H (fob (un F S) Z O)) (hid (upd H x no) (un (fob F Z O) (addS S x x))):=fun b o q=>by
  obtain⟨q1,q2⟩:=hid_some.mp q;refine hid_some.mpr ⟨?_,sm b o q2⟩
  cases e:un (fob F Z O) (addS S x x) b with
  | false=>rfl
  | true =>
   rcases un_t.mp e with z|z
   ·have h2:fob (un F S) Z O b=true:=by rw[<- jft];exact un_t.mpr (.inl z)
    rw[h2] at q1;cases q1
   ·rcases new b z with z|z
    ·have h2:fob (un F S) Z O b=true:=jg9 b (un_t.mpr (.inr z));rw[h2] at q1;cases q1
    ·rw[z] at q2;cases q2
 have sto:StoOk (addR J Ω.length x) (addS S x x) K mg (upd H x no) (hid (upd H x no) (un (fob F Z O) (addS S x x))) (Ω++[nso]):=by
  refine⟨fun i so hi=>?_,fun i j a h1 h2=>?_,fun i hi=>?_,fun b hb=>?_,jvc (jou R.sto.tv fun xs z=>(hr J S _ (RLe.refl _) (Same.refl _)).no_tup xs (by rw[jaq,z])) vis0⟩
  ·by_cases h:i<Ω.length
   ·rw[List.getElem?_append_left h] at hi;obtain⟨a,q1,q2,q3⟩:=R.sto.ats i so hi;refine⟨a,l i a q1,old a q2,?_⟩
    cases so with
    | ins c' fs' =>
     obtain⟨C',dx',vfs',p1,p2,p3,p4,p5⟩:=q3;exact⟨C',dx',vfs',p1,by rw[keep a q2];exact p2,by rw[keep dx' p4];exact p3,old _ p4,p5.mono l vis0⟩
    | lst ds =>
     obtain⟨xs,p1,p2⟩:=q3;exact⟨xs,by rw[keep a q2];exact p1,(p2.rho l).mono vis0⟩
    | tab _ _ _ _ =>
     obtain⟨ps,p1,p2,p3⟩:=q3;exact⟨ps,by rw[keep a q2];exact p1,p2,p3.mono vis0⟩
    | dct _ =>
     obtain⟨vk,p1,p2,p3⟩:=q3;exact⟨vk,by rw[keep a q2];exact p1,p2,(p3.rho l).mono vis0⟩
    | exc c j=>exact ExcOk.mono l (keep a q2) q3
    | xd fs =>
     obtain⟨vfs,p1,p2⟩:=q3;exact⟨vfs,by rw[keep a q2];exact p1,p2.mono l vis0⟩
   ·have e:i=Ω.length:=by
     have:=(zbc.mp hi).1;simp at this;omega
    subst e;rw[List.getElem?_append_right (zac _),Nat.sub_self] at hi;cases hi;exact⟨x,by unfold addR;rw[if_pos rfl],addS_t.mpr (.inr (.inl rfl)),hr _ _ _ l vis0⟩
  ·have fresh:∀ i a,i≠Ω.length->J i=some a->a≠x:=fun i a hi h z=>by
    subst z;have il:i<Ω.length:=by
     by_cases q:i<Ω.length
     ·exact q
     ·rw[R.sto.top i (by omega)] at h;cases h
    obtain⟨a',q1,q2,_⟩:=R.sto.ats i _ (zax il);rw[h] at q1;cases q1
    exact R.sto.fin a q2 hx
   unfold addR at h1 h2
   by_cases e1:i=Ω.length
   ·by_cases e2:j=Ω.length
    ·rw[e1,e2]
    ·rw[if_pos e1] at h1;rw[if_neg e2] at h2
     cases h1;exact absurd rfl (fresh j _ e2 h2)
   ·by_cases e2:j=Ω.length
    ·rw[if_neg e1] at h1;rw[if_pos e2] at h2
     cases h2;exact absurd rfl (fresh i _ e1 h1)
    ·rw[if_neg e1] at h1;rw[if_neg e2] at h2
     exact R.sto.inj i j a h1 h2
  ·rw[zdb,List.length_singleton] at hi;unfold addR;rw[if_neg (by omega)];exact R.sto.top i (by omega)
  ·rcases addS_t.mp hb with q|rfl|rfl
   ·rw[keep b q];exact R.sto.fin b q
   ·rw[jaq];exact fun z=>nomatch z
   ·rw[jaq];exact fun z=>nomatch z
 obtain⟨t1,t2⟩:=R.call l (fun b o _ h=>sm b o h) old new ff sto;exact⟨t1,l,t2⟩
end
section
variable {es:List Expr}
inductive AtLI(x y:D)(Ω Ω':Sto)(r:Except XD D):Prop
 | mk (i:Nat) (j:Int) (ds:List D) (d:D) (hx:x=.obj i) (hy:y=.int j) (hi:Ω[i]? = some (.lst ds)) (ha:L2.atI ds j=some d) (hr:r=.ok d) (ho:Ω'=Ω)
noncomputable def putL(g:List D->Option (List D)):D->MS D:=fun x Ω=>match x with
 | .obj i=>match Ω[i]? with
  | some (.lst ds)=>(g ds).map fun es=>(.ok .non,Ω.set i (.lst es))
  | _=>none
 | _=>none
inductive ChkI(x:D)(Ω Ω':Sto)(r:Except XD D):Prop
 | mk (i:Nat) (ds:List D) (hx:x=.obj i) (hi:Ω[i]? = some (.lst ds)) (hr:r=.ok x) (ho:Ω'=Ω)
inductive PutI(g:List D->Option (List D))(x:D)(Ω Ω':Sto)(r:Except XD D):Prop
 | mk (i:Nat) (ds es:List D) (hx:x=.obj i) (hi:Ω[i]? = some (.lst ds)) (hg:g ds=some es) (hr:r=.ok .non) (ho:Ω'=Ω.set i (.lst es))
end
def forL(k:Nat->D->D)(g:DSt->MS Out)(h:D->DSt->Option DSt)(n:Nat):Nat->Nat->DSt->MS Out
 | 0,_,_=>fun _=>none
 | f+1,i,Y=>fun Ω=>match Ω[n]? with
  | some (.lst ds)=>match ds[i]? with
   | none=>some (.ok (.nx Y),Ω)
   | some d=>match h (k i d) Y with
    | none=>none
    | some Y1=>((g Y1).b fun o=>match o with
     | .nx Y2=>forL k g h n f (i+1) Y2
     | .ct Y2=>forL k g h n f (i+1) Y2
     | .bk Y2=>MS.p (.nx Y2)
     | .rt v=>MS.p (.rt v)) Ω
  | _=>none
inductive ForLI(k:Nat->D->D)(g:DSt->MS Out)(h:D->DSt->Option DSt)(n f i:Nat)(Y:DSt)(Ω Ω':Sto)(r:Except XD Out):Prop
 | stop (ds:List D) (hn:Ω[n]? = some (.lst ds)) (hi:ds[i]? = none) (hr:r=.ok (.nx Y)) (ho:Ω'=Ω)
 | turn (ds:List D) (d:D) (Y1:DSt) (hn:Ω[n]? = some (.lst ds)) (hi:ds[i]? = some d) (hh:h (k i d) Y=some Y1) (hg:((g Y1).b fun o=>match o with
     | .nx Y2=>forL k g h n f (i+1) Y2
     | .ct Y2=>forL k g h n f (i+1) Y2
     | .bk Y2=>MS.p (.nx Y2)
     | .rt v=>MS.p (.rt v)) Ω=some (r,Ω'))
inductive FLInv(X:Cx)(O:List Nat)(Jz:Rho)(Sz:qf)(Hz:Hp)(F:qf)(J1:Rho)(H1:Hp)(m:DSt->MS Out)(r:Except XD Out)(Ω':Sto)(Z:St)(H:Hp):Prop
 | mk (J:Rho) (S:qf) (Y:DSt) (Ω:Sto) (hR:RM Jz Sz Hz F X.K X.mg O J S H Z Y Ω) (hl:RLe J1 J) (hs:Same H1 (hid H (fob (un F S) Z O))) (hf:m Y Ω=some (r,Ω'))
section
end
def jCd(done:List D):Except XD (List D)->Except XD (List D)
 | .ok rest=>.ok (done++rest)
 | .error y=>.error y
inductive CEI(X:Cx)(J1:Rho)(S1:qf)(H1 Hv:Hp)(G:qf)(Dd:Addr)(T:Except XD (List D))(Ωe:Sto)(cd:DSt->MS (List D))(i:Nat)(Z:St)(H:Hp):Prop
 | mk (J:Rho) (S:qf) (Y:DSt) (Ω:Sto) (done:List D) (zs:List V) (rr:Except XD (List D)) (hR:RM J S H G X.K X.mg [] J S H Z Y Ω) (hD:H Dd=some (.lst zs)) (hz:Reps J X.K (hid H (un G S)) done zs) (hlen:zs.length=i)
  (hc:cd Y Ω=some (rr,Ωe)) (hT:T=jCd done rr) (hv:Same Hv (hid H (un G S))) (hl:RLe J1 J) (hsm:∀ b o,S1 b=false->H1 b=some o->H b=some o) (hold:∀ b,S1 b=true->S b=true) (hnew:∀ b,S b=true->S1 b=true\/H1 b=none)
section
variable {Jz J:Rho}{Sz S F:qf}{Hz H:Hp}{K:W.Frag}{mg:qc}{Z:St}{Y:DSt}{Ω:Sto}
theorem RM.here(R:RM Jz Sz Hz F K mg [] J S H Z Y Ω):RM J S H F K mg [] J S H Z Y Ω :=
 ⟨R.rs,RLe.refl _,fun _ _ _ h=>h,fun _ h=>h,fun _ h=>.inl h,fun i hi=>absurd hi (by simp),R.ff,R.sto⟩
theorem RM.updG(R:RM Jz Sz Hz F K mg [] J S H Z Y Ω){a:Addr}{zs:List V}(h:F a=true):RM J S (upd H a (.lst zs)) F K mg [] J S (upd H a (.lst zs)) Z Y Ω:=by
 have hF:un F S a=true:=un_t.mpr (.inl h);refine⟨R.rs.updF hF,RLe.refl _,fun _ _ _ h=>h,fun _ h=>h,fun _ h=>.inl h,fun i hi=>absurd hi (by simp),R.ff,?_⟩;rw[ja8,jc1 hF];have s:=R.sto;rw[ja8] at s;refine s.mono (fun b hb=>jar ?_) (Same.refl _) (jou s.tv fun _ z=>nomatch z);rintro rfl;rw[R.ff b h] at hb;cases hb
end
section
end
end DL
namespace L2
open PyProof.Rows
section
variable {κ:Type}[DecidableEq κ]
noncomputable def valV(kvs:List (κ×V))(k:κ):Option V:=(kvs.find? fun kv=>decide (kv.1=k)).map (·.2)
theorem jrg{p:κ×V}{r:List (κ×V)}{k:κ}(e:p.1=k):valV (p::r) k=some p.2:=by simp[valV,List.find?_cons,e]
theorem jrf{p:κ×V}{r:List (κ×V)}{k:κ}(e:¬ p.1=k):valV (p::r) k=valV r k:=by simp[valV,List.find?_cons,e]
end
theorem jFy{P:Program}{w:World}{k:Key}{u:Value}(r:RelV (kV k) u):(jcw P w).is k u=true:=by
 cases k with
 | inl i=>obtain⟨t,e⟩:=(show ∃ t,u=Value.int i t from r);subst e;exact jpn P w i t
 | inr x=>obtain⟨t,e⟩:=(show ∃ t,u=Value.str x t from r);subst e;exact jpo P w x t
theorem jkl{P:Program}{w:World}:∀ {ks:List Key} {us:List Value},Vals (ks.map kV) us->ItemsAre (jcw P w) ks us
 | [],_,r=>by rw[List.map_nil] at r;cases r;exact .nil
 | k::ks,_,r=>by
  rw[List.map_cons] at r
  cases r with
  | cons h t=>exact .cons (jFy h) (jkl t)
abbrev KT(H:Hp):List (List Key×V)->List (List Key×Addr×Value)->Prop:=Paired fun p q=>p.1=q.1/\H q.2.1=some (.tup (p.1.map kV))/\RelV p.2 q.2.2
theorem KT.val{H:Hp}{kvs:List (List Key×V)}{xs:List (List Key×Addr×Value)}(r:KT H kvs xs)(k:List Key):RelO (valV kvs k) ((atKey xs k).map (·.2)):=by
 induction r with
 | nil=>exact True.intro
 | @cons p q ps qs h t ih =>
  obtain⟨h1,_,h2⟩:=h
  by_cases e:p.1=k
  ·have e':q.1=k:=h1.symm.trans e;have b:atKey (q::qs) k=some q.2:=by simp[atKey,List.find?_cons,e']
   rw[jrg e,b];exact h2
  ·have e':¬ q.1=k:=fun z=>e (h1.trans z)
   have b:atKey (q::qs) k=atKey qs k:=by simp[atKey,List.find?_cons,e']
   rw[jrf e,b];exact ih
theorem KT.keeps{H H':Hp}{kvs:List (List Key×V)}{xs:List (List Key×Addr×Value)}(r:KT H kvs xs)(ht:∀ b ys,H b=some (.tup ys)->H' b=some (.tup ys)):KT H' kvs xs :=
 Paired.mapP r fun _ _ z=>⟨z.1,ht _ _ z.2.1,z.2.2⟩
section
variable {P:Program}{w:World}{H:Hp}{h:Heap}{a:Addr}
theorem jD6{u:HO}(ok:HOk P w H h)(e:Rd H a u):ObjOk P w H h a u:=e.ok ok
theorem jFf{kvs:List (Key×V)}(ok:HOk P w H h)(e:Rd H a (.dK kvs)):kvs.length<=sizeLine/\(a == sysModules)=false/\∃ vs,KV kvs vs/\h.DictOf (jcw P w) a vs :=
 show ObjOk P w H h a (.dK kvs) from jD6 ok e
theorem jx3{ks:List Key}(ok:HOk P w H h)(e:H a=some (.tup (ks.map kV))):(tupleKind (jcw P w)).is h ks a:=by
 obtain⟨_,its,r,o,h1,h2,n,h3⟩:=(show ObjOk P w H h a (.tup (ks.map kV)) from ok a _ e)
 exact⟨o,its.toArray,n,h1,h2,h3,by simpa using jkl r⟩
theorem jBn{kvs:List (List Key×V)}(ok:HOk P w H h)(e:Rd H a (.dT kvs)):kvs.length<=sizeLine/\(a == sysModules)=false /\
  ∃ xs,KT H kvs xs/\h.DictOfH (tupleKind (jcw P w)) a xs:=by
 obtain⟨z,y,xs,r,o,es,ep,h1,h2,h3,h4,h5⟩:=(show ObjOk P w H h a (.dT kvs) from jD6 ok e)
 refine⟨z,y,xs,r,o,es,ep,h1,h2,h3,h4,fun x hx=>?_,h5⟩;have all:∀ {l:List (List Key×V)} {m:List (List Key×Addr×Value)},KT H l m->∀ x∈m,(tupleKind (jcw P w)).is h x.1 x.2.1:=by
  intro l m q
  induction q with
  | nil=>intro x hx;exact nomatch hx
  | @cons p q ps qs hq t ih =>
   intro x hx;rcases List.mem_cons.mp hx with e|hx
   ·subst e;exact jx3 ok (by rw[<- hq.1];exact hq.2.1)
   ·exact ih x hx
 exact all r x hx
theorem jBm{kvs:List (List Key×V)}(ok:HOk P w H h)(e:H a=some (.dT kvs)):kvs.length<=sizeLine/\(a == sysModules)=false /\
  ∃ xs,KT H kvs xs/\h.DictOfH (tupleKind (jcw P w)) a xs:=jBn ok (.inl e)
end
section
variable {X:Cx}{U:qd}{Z:St}{H:Hp}{s:Shared}{a:Addr}
theorem Inv.big(I:Inv X U Z H s):sysModules<s.heap.objs.size:=by
 have h:mainGlobals<s.heap.objs.size:=(I.mod.glob.keeps I.bk).lt;exact Nat.lt_trans (by decide) h
theorem jyu{h':Heap}{t':Nat}{ob:HO}(I:Inv X U Z H s)(mu:Mut (H a))(hs:Heap.SameBut a s.heap h')(he:∃ q,h'.get? a=some q)(new:ObjOk X.prog X.w (upd H a ob) h' a ob) :
  Inv X U Z (upd H a ob) { s with heap:=h',toks:=t' } :=
 I.write (x:=a) (e:=a) mu (.inl rfl) (fun b q hb z=>(hs.2 b hb).trans z) he new
end
section
end
def NoSl(i:Expr):Prop:=∀ ov iv,subscripted i false ov iv=operate [ov,iv] (getItem ov iv)
theorem jAt{prog:Program}{w:World}{A:Around}{E:qe}{s:Shared}{env:Env}{value slice:Expr}{pos:Pos}{T id:String}{Q:qe}
  (hl:typeLookup (.type T) "__getitem__"=pure (some (.builtin id))) (hs:NoSl slice)
  (h:wpAny (model prog w) A (eval value env) (fun o s₁=>wpAny (model prog w) A (eval slice env) (fun i s₂=>s₂.TypeIs o T/\wpAny (model prog w) A (getItem o i) Q E s₂) E s₁) E s) :
  wpAny (model prog w) A (eval (.Subscript value slice pos) env) Q E s:=by
 refine Subscript_ (wpAny_mono h (fun o s₁ h₁=>wpAny_mono h₁ (fun i s₂ h₂=>?_) fun _ _ x=>x) fun _ _ x=>x);obtain⟨hT,h₂⟩:=h₂;unfold subscriptTail;refine zay ?_;rw[getitemInPython_of_ne hT.not_modules];refine zay (wpAny_specialOf hT hl ?_);have fin:wpAny (model prog w) A (subscripted slice false o i) (fun r s₃=>wpAny (model prog w) A (letTemporaryGo value o r >>= fun _=>pure r) Q E s₃) E s₂:=by
  rw[hs o i];exact wpAny_operating (wpAny_mono h₂ (fun r s₃ h₃=>zay (wpAny_letTemporaryGo (zab h₃))) fun _ _ x=>x)
 first
  | exact zab (zay fin)
  | exact zay (zab (zay fin))
  | exact zay fin
section
end
theorem jv4{P:Program}{w:World}{H:Hp}(h:Heap)(hb:sysModules<h.objs.size):ObjOk P w H (h.push { cls:=.type "dict",data:=.dict #[] }) h.objs.size (.dT []) :=
 ⟨Nat.zero_le _,beq_eq_false_iff_ne.mpr (Ne.symm (zcb hb)),[],.nil,_,#[],0,zbv _ rfl,⟨rfl,rfl,rfl⟩,rfl,rfl,List.nodup_nil⟩
def jEm:TE:=fun _ H Q=>∀ p,H p=none->Q (.ref p) (upd H p (.dT []))
section
variable {X:Cx}{pos:Pos}
theorem jwv:PE X (.Dict [] [] pos) jEm:=fun U s Z H Q I h =>
 wpAny_Dict_empty ⟨.ref s.heap.objs.size,_,I.laid (a:=s.heap.objs.size) (o:=.dT []) (t':=s.toks) (fun _ _ q=>zaz _ q) (zac _) (jv4 s.heap I.big),rfl,h _ (I.hok.fresh (zac _))⟩
end
structure M1(X:Cx)(o:Expr)(m:Str)(apos:Pos)(e:Expr)(cpos:Pos):Prop where
 base:attributeBase o m X.env (eval o X.env)=eval o X.env
 few:((backTo cpos (starEach [e] X.env)).all (fun x=>!x.1)&&(backToKw cpos (keywordEach [] X.env)).all (fun x=>x.1.isSome)
  && decide (([e]:List Expr).length+([]:List Keyword).length+(if ([]:List Keyword).isEmpty then 0 else 1)<30))=true
 line:(apos.endLine == cpos.line)=true
 trees:backTo cpos (starEach [e] X.env)=[(false,eval e X.env)]
structure M2(X:Cx)(o:Expr)(m:Str)(apos:Pos)(e f:Expr)(cpos:Pos):Prop where
 base:attributeBase o m X.env (eval o X.env)=eval o X.env
 few:((backTo cpos (starEach [e,f] X.env)).all (fun x=>!x.1)&&(backToKw cpos (keywordEach [] X.env)).all (fun x=>x.1.isSome)
  && decide (([e,f]:List Expr).length+([]:List Keyword).length+(if ([]:List Keyword).isEmpty then 0 else 1)<30))=true
 line:(apos.endLine == cpos.line)=true
 trees:backTo cpos (starEach [e,f] X.env)=[(false,eval e X.env),(false,eval f X.env)]
def IsD(H:Hp)(a:Addr):Prop:=(∃ kvs,Rd H a (.dK kvs))\/∃ kvs,Rd H a (.dT kvs)
theorem jB6{X:Cx}{U:qd}{Z:St}{H:Hp}{s:Shared}{a:Addr}(I:Inv X U Z H s)(d:IsD H a) :
  s.TypeIs (.ref a) "dict"/\(∀ b,Value.ref a=.ref b->∃ ob,s.heap.get? b=some ob/\ob.dict=none)/\(a == sysModules)=false:=by
 rcases d with ⟨kvs,e⟩|⟨kvs,e⟩
 ·obtain⟨_,hd,vs,_,dd⟩:=jFf I.hok e;refine⟨dd.typeIs,fun b q=>?_,hd⟩;cases q;obtain⟨ob,_,_,h1,h2,_⟩:=dd;exact⟨ob,h1,h2.2.1⟩
 ·obtain⟨_,hd,xs,_,dd⟩:=jBn I.hok e;refine⟨dd.typeIs,fun b q=>?_,hd⟩;cases q;obtain⟨ob,_,_,h1,h2,_⟩:=dd;exact⟨ob,h1,h2.2.1⟩
section
end
section
end
section
end
section
end
end L2
namespace Att
open PySem PySem.W PySem.Calls PyProof.Rows
end Att
namespace L2
open PyProof.Rows
section
variable {κ:Type}[DecidableEq κ]
end
section
variable {prog:Program}{w:World}{κ:Type}[DecidableEq κ]{knd:HeapKind prog w κ}{A:Around}{E:qe}{s:Shared}{d a:Addr}{xs:List (κ×Addr×Value)}{k:κ}
theorem jna:∀ {xs:List (κ×Addr×Value)} {j:Nat} {p:Addr×Value},(xs.map (·.1)).Nodup->xs[j]? = some (k,p)->atKey xs k=some p
 | x::xs,0,p,_,e=>by
  cases e;simp[atKey]
 | x::xs,j+1,p,hn,e=>by
  obtain⟨n1,n2⟩:=List.nodup_cons.mp (show (x.1::xs.map (·.1)).Nodup from hn);have e':xs[j]? = some (k,p):=by simpa using e
  have hx:¬ x.1=k:=fun z=>n1 (z ▸ zca.mpr ⟨(k,p),zdv e',rfl⟩)
  have ih:=jna n2 e';unfold atKey at ih |-
  rw[List.find?_cons,decide_eq_false hx];exact ih
theorem jrm{xs:List (κ×Addr×Value)}(h:∀ (j:Nat) (p:Addr×Value),xs[j]?≠some (k,p)):atKey xs k=none:=by
 unfold atKey;rw[Option.map_eq_none_iff,List.find?_eq_none];intro x hx hk;obtain⟨j,hj⟩:=List.getElem?_of_mem hx;exact h j x.2 (by rw[hj];congr 1;exact Prod.ext (of_decide_eq_true hk) rfl)
theorem jA1{o:Obj}{es:Array DictEntry}{ep:Nat}(f:Array DictEntry->Array DictEntry)(h1:s.heap.get? d=some o)(h2:o.ExactDict)(h3:o.data=.dict es ep) :
  Heap.SameBut d s.heap (s.heap.update d (Obj.mapDictKeys f))/\∃ o',(s.heap.update d (Obj.mapDictKeys f)).get? d=some o'/\o'.ExactDict/\o'.data=.dict (f es) (ep+1):=by
 obtain⟨c,dd,dt,sl⟩:=o;have h3':dt=.dict es ep:=h3;subst h3';refine⟨Heap.SameBut.update ..,⟨c,dd,.dict (f es) (ep+1),sl⟩,?_,h2,rfl⟩;rw[Heap.get?_update_self _ h1 rfl];rfl
theorem jAl{v:Value}{Q:qe}(hr:knd.room A)(hk:knd.is s.heap k a)(hd:Heap.DictOfH knd s.heap d xs)(hz:xs.length<=sizeLine)
  (h1:∀ p,atKey xs k=some p->Q p.2 { s with toks:=s.toks+knd.draws k })
  (h2:atKey xs k=none->∀ h',Heap.DictOfH knd h' d (xs++[(k,a,v)])->Heap.SameBut d s.heap h'->Q v { s with heap:=h',toks:=s.toks+knd.draws k }):wpAny (model prog w) A (dictSetDefault d (.ref a) v) Q E s:=by
 obtain⟨o,es,ep,g1,g2,g3,g4,g5,g6⟩:=hd;unfold dictSetDefault;refine wpAny_holding (zay (knd.pyHash hr hk (zay ?_)));refine wpAny_dictFind_heap (s:={ s with toks:=s.toks+knd.draws k }) hr hk g1 g3 g4 g5 g6 (fun hn=>?_) (fun j p hj=>?_)
 ·show wpAny _ _ (rule _ >>= fun _=>_) _ _ _;have hkn:=jrm hn;have hl:es.size=xs.length:=by rw[<- Array.length_toList,g4,zav]
  refine zay (wpAny_rule (zay (wpAny_updateDictKeys (s:={ s with toks:=s.toks+knd.draws k }) g1 g3 (zab ?_) (by rw[hl];exact hz) (by simp))));obtain⟨sb,o',e1,e2,e3⟩:=jA1 (s:={ s with toks:=s.toks+knd.draws k }) (fun x=>x.push { hash:=knd.hash k,key:=.ref a,val:=v }) g1 g2 g3;refine h2 hkn _ ⟨o',_,_,e1,e2,e3,?_,fun x hx=>?_,?_⟩ sb
  ·rw[Array.toList_push,g4,List.map_append];rfl
  ·rcases zey.mp hx with hx|hx
   ·exact knd.keeps (g5 x hx) g1 g3 sb
   ·rw[zex.mp hx];exact knd.keeps hk g1 g3 sb
  ·rw[List.map_append];refine List.nodup_append.mpr ⟨g6,by simp,fun x hx y hy z=>?_⟩;subst z;have:x=k:=by simpa using hy
   subst this;obtain⟨q,hq,e⟩:=zca.mp hx;obtain⟨j,hj⟩:=List.getElem?_of_mem hq;exact hn j q.2 (by rw[hj,<- e])
 ·show wpAny _ _ (dictEntries d (keyPart (.ref a)) >>= fun _=>_) _ _ _;refine zay (wpAny_dictEntries (s:={ s with toks:=s.toks+knd.draws k }) g1 g3 ?_);have e:es[j]? = some (entryOfKey knd (k,p)):=by rw[<- Array.getElem?_toList,g4,zbb,hj];rfl
  rw[e];exact zay (wpAny_rule (zab (h1 p (jna g6 hj))))
theorem jre(hd:Heap.DictOfH knd s.heap d xs):s.TypeIs (.ref d) "dict":=by
 obtain⟨o,es,ep,g1,g2,_⟩:=hd;exact⟨o,g1,g2.1⟩
theorem jvn{v:Value}{Q:qe}(hr:knd.room A.in1)(hs:(d == sysModules)=false)(hk:knd.is s.heap k a)(hd:Heap.DictOfH knd s.heap d xs)(hz:xs.length<=sizeLine)
  (h1:∀ p,atKey xs k=some p->Q p.2 { s with toks:=s.toks+knd.draws k })
  (h2:atKey xs k=none->∀ h',Heap.DictOfH knd h' d (xs++[(k,a,v)])->Heap.SameBut d s.heap h'->Q v { s with heap:=h',toks:=s.toks+knd.draws k }):wpAny (model prog w) A (call (.builtin "dict.setdefault") [.ref d,.ref a,v]) Q E s:=by
 refine call_meetsIn (S:=fun A R s'=>A.in1=A.in1/\s'=s/\R=wants Q E/\knd.room A.in1) PySem.F.slot_dict_setdefault (jre hd) PySem.F.entry_dict_setdefault (PySem.F.args_dict_setdefault_3 _ _ _) (MeetsIn.of_wp fun A' R s' hzz=>?_) ⟨rfl,rfl,rfl,hr⟩;obtain⟨_,e1,e2,hr'⟩:=hzz;subst e1 e2;unfold Builtin.«dict.setdefault» Builtin.Dict.keyAndDefault;refine zay (zay (wpAny_notOrdered_dict (jre hd) ?_));refine zay (zab (zay (zay (zab ?_))));refine zay (m:=checkCount "setdefault" 1 2 _) (zab (zab ?_));refine zay (zab (zab ?_));show wpAny _ _ (if (d == sysModules)=true then _ else _) _ _ _;rw[if_neg (by rw[hs];decide)];refine zay (jAl hr' hk hd hz (fun p e=>?_) fun e h' d' sb=>?_)
 ·exact zab ⟨_,rfl,h1 p e⟩
 ·exact zab ⟨_,rfl,h2 e h' d' sb⟩
end
section
variable {X:Cx}{U:qd}{Z:St}{H:Hp}{s:Shared}{a b:Addr}{kvs:List (List Key×V)}{k:List Key}{A:Around}{E:qe}
theorem jFd{v:V}{r:Value}{Q:qe}(hu:A.units+1<cLine)(I:Inv X U Z H s)(e:H a=some (.dT kvs))(eb:H b=some (.tup (k.map kV)))(rv:RelV v r)(hl:kvs.length<sizeLine)
  (h1:∀ v0,valV kvs k=some v0->∀ w' s',Inv X U Z H s'->RelV v0 w'->Q w' s') (h2:valV kvs k=none->∀ s',Inv X U Z (upd H a (.dT (kvs++[(k,v)]))) s'->Q r s') :
  wpAny (model X.prog X.w) A (call (.builtin "dict.setdefault") [.ref a,.ref b,r]) Q E s:=by
 obtain⟨z,hd,xs,rel,dd⟩:=jBm I.hok e;have hz:xs.length<=sizeLine:=by rw[<- Paired.length rel];exact z
 refine jvn (tupleKind_room_in1 hu) hd (jx3 I.hok eb) dd hz (fun p hp=>?_) fun hn h' dd' hs=>?_
 ·have q:=rel.val k;rw[hp] at q;obtain⟨v0,hv,rv0⟩:∃ v0,valV kvs k=some v0/\RelV v0 p.2:=by
   cases hv:valV kvs k with
   | none=>rw[hv] at q;exact q.elim
   | some v0=>rw[hv] at q;exact⟨v0,rfl,q⟩
  exact h1 v0 hv _ _ (I.tok _) rv0
 ·have q:=rel.val k;rw[hn] at q;have hv:valV kvs k=none:=by
   cases hv:valV kvs k with
   | none=>rfl
   | some v0=>rw[hv] at q;exact q.elim
  refine h2 hv _ ?_;obtain⟨q,es,ep,hq,g2,g3,g4,_,g5⟩:=dd';refine jyu I (by rw[e];exact True.intro) hs ⟨q,hq⟩ ⟨by rw[zdb];exact hl,hd,_,(KT.keeps (Paired.snoc rel ⟨rfl,eb,rv⟩) fun c ys ec=>?_),q,es,ep,hq,g2,g3,g4,g5⟩;rw[jar (jC6 ec e (fun z=>nomatch z))];exact ec
end
def tDSd(td ty tx:TE):TE:=fun Z H Q=>td Z H fun x H1=>∃ a,x=.ref a/\IsD H1 a/\ty Z H1 fun y H2=>tx Z H2 fun z H3=>∃ kvs k b,H3 a=some (.dT kvs)/\y=.ref b/\H3 b=some (.tup (k.map kV))/\kvs.length<sizeLine /\
 (∀ v,valV kvs k=some v->Q v H3)/\(valV kvs k=none->Q z (upd H3 a (.dT (kvs++[(k,z)]))))
section
variable {X:Cx}{o e f:Expr}{apos cpos:Pos}{td ty tx:TE}
theorem jDh(hu:X.A.units+1<cLine)(ho:PE X o td)(he:PE X e ty)(hf:PE X f tx)(m:M2 X o "setdefault" apos e f cpos):PE X (.Call (.Attribute o "setdefault" apos) [e,f] [] cpos) (tDSd td ty tx):=by
 intro U s Z H Q I h;refine wpAny_Call_method m.base m.few m.line PySem.F.plainAttrs_dict PySem.F.slot_dict_setdefault PySem.F.type_dict_setdefault (thn (ho U s Z H _ I h) fun u s1 hzz=>?_);obtain⟨x,H1,I1,rx,a,ex,d,q1⟩:=hzz;subst ex;obtain rfl:u=Value.ref a:=rx;obtain⟨t1,t2,_⟩:=jB6 I1 d;refine⟨t1,t2,?_⟩;rw[m.trees];refine Calls.callWith_builtin rfl (Calls.evalArgs_plain (Calls.spliced_cons (thn (he U s1 Z H1 _ I1 q1) fun iv s2 ⟨y,H2,I2,ry,q2⟩ =>
  Calls.spliced_cons (thn (hf U s2 Z H2 _ I2 q2) fun fv s3 ⟨z,H3,I3,rz,kvs,k,b,ea,ey,eb,hl,q3,q4⟩=>Calls.spliced_nil ?_))))
 subst ey;obtain rfl:iv=Value.ref b:=ry;exact jFd hu I3 ea eb rz hl (fun v0 hv w' s4 I4 rw'=>⟨v0,H3,I4,rw',q3 v0 hv⟩) fun hv s4 I4=>⟨z,_,I4,rz,q4 hv⟩
end
end L2
namespace DL
open L2
noncomputable def jpl(kvs:List (List Int×D))(k:List Int):Option D:=(kvs.find? fun p=>decide (p.1=k)).map (·.2)
theorem jtl:∀ {a b:List Int},a.map (Sum.inl:Int->Key)=b.map Sum.inl->a=b
 | [],[],_=>rfl
 | [],_::_,h=>by cases h
 | _::_,[],h=>by cases h
 | x::a,y::b,h=>by
  rw[List.map_cons,List.map_cons,List.cons.injEq] at h;rw[Sum.inl.inj h.1,jtl h.2]
inductive LookV(J:Rho)(K:W.Frag)(H:Hp)(o:Option D)(v:Option V):Prop
 | none (h1:o=none) (h2:v=none)
 | some (d:D) (u:V) (h1:o=some d) (h2:v=some u) (h3:Rep J K H d u)
theorem jqy{J:Rho}{K:W.Frag}{H:Hp}(k:List Int):∀ {kvs:List (List Int×D)} {vk:List (List Key×V)},vk.map (·.1)=kvs.map (fun p=>p.1.map Sum.inl)->Reps J K H (kvs.map (·.2)) (vk.map (·.2))->LookV J K H (jpl kvs k) (valV vk (k.map Sum.inl))
 | [],[],_,_=>.none rfl rfl
 | [],_::_,h,_=>by cases h
 | _::_,[],h,_=>by cases h
 | p::kvs,q::vk,h,r=>by
  rw[List.map_cons,List.map_cons,List.cons.injEq] at h;rw[List.map_cons,List.map_cons] at r;obtain⟨u,us,e,q1,q2⟩:=reps_cons.mp r;rw[List.cons.injEq] at e;obtain⟨e1,e2⟩:=e
  by_cases hk:p.1=k
  ·have hq:q.1=k.map Sum.inl:=by rw[h.1,hk]
   refine .some p.2 q.2 ?_ (jrg hq) (by rw[e1];exact q1);unfold jpl;rw[List.find?_cons,decide_eq_true hk];rfl
  ·have hq:¬ q.1=k.map Sum.inl:=fun z=>hk (jtl (by rw[<- h.1];exact z))
   have ih:=jqy k h.2 (by rw[<- e2] at q2;exact q2);unfold jpl at ih |-
   rw[List.find?_cons,decide_eq_false hk,jrf hq];exact ih
noncomputable def jCw:DSt->MS D:=fun _ Ω=>some (.ok (.obj Ω.length),Ω++[.dct []])
noncomputable def chkD:D->MS D:=fun x Ω=>match x with
 | .obj n=>match Ω[n]? with
  | some (.dct _)=>some (.ok (.obj n),Ω)
  | _=>none
 | _=>none
inductive ChkDI(x:D)(Ω Ω':Sto)(r:Except XD D):Prop
 | mk (n:Nat) (kvs:List (List Int×D)) (h1:x=.obj n) (h2:Ω[n]? = some (.dct kvs)) (h3:r=.ok (.obj n)) (h4:Ω'=Ω)
theorem jqd{x:D}{Ω Ω':Sto}{r:Except XD D}(h:chkD x Ω=some (r,Ω')):ChkDI x Ω Ω' r:=by
 unfold chkD at h
 cases x with
 | obj n =>
  dsimp only at h
  cases hn:Ω[n]? with
  | none=>rw[hn] at h;cases h
  | some so =>
   rw[hn] at h
   cases so with
   | dct kvs=>cases h;exact⟨n,kvs,rfl,hn,rfl,rfl⟩
   | _=>cases h
 | _=>cases h
inductive AtDI(g:List (List Int×D)->List Int->Option (D×List (List Int×D)))(x:D)(ks:List D)(Ω Ω':Sto)(r:Except XD D):Prop
 | mk (n:Nat) (i j:Int) (kvs kvs':List (List Int×D)) (d:D) (h1:x=.obj n) (h2:ks=[.int i,.int j]) (h3:Ω[n]? = some (.dct kvs)) (h4:g kvs [i,j]=some (d,kvs')) (h5:r=.ok d) (h6:Ω'=Ω.set n (.dct kvs'))
def gSdD(v:D)(kvs:List (List Int×D))(k:List Int):Option (D×List (List Int×D)):=if kvs.length<sizeLine then some (match jpl kvs k with
 | some d=>(d,kvs)
 | none=>(v,kvs++[(k,v)])) else none
section
variable {X:Cx}{O:List Nat}{e:Expr}{pos:Pos}
theorem jzo:ME X O (.Dict [] [] pos) jCw:=by
 rintro U s Z H Q I ⟨Jz,Sz,Hz,F,J,S,Y,Ω,R,r,Ω',hf,k⟩;cases hf;refine jwv U s Z H Q I fun p hp=>?_
 obtain⟨t1,t2,t3⟩:=R.newS (nso:=.dct []) (no:=.dT []) hp fun J' S' Hv' l v=>⟨[],jaq,rfl,Reps.nil⟩
 exact k _ _ _ _ t1 t2 t3 (rep_obj.mpr ⟨p,by unfold addR;rw[if_pos rfl],rfl⟩)
theorem jra{Ω:Sto}{n:Nat}{so:SO}(h:Ω[n]? = some so):Ω.set n so=Ω:=by
 obtain⟨hl,e⟩:=zbc.mp h;rw[<- e,List.set_getElem_self]
end
end DL
namespace L2
open PyProof.Rows
section
variable {X:Cx}
theorem jsy{elt tg iter:Expr}{ifs:List Expr}{scope:Scope}{pos p0:Pos}{own:List Str}{caps:qh}{wi:TI}{g:TG}{tc:TT}{te:TE}{use:Option (Value->Sem Unit)}{QS:qe}(hc:X.calm=true)(ck:CapsOk X scope caps)
  (hi:PI X tg iter wi) (hg:∀ C s0 H0 ex,PG (jbd X scope (own++caps.map (·.1)) C s0 H0 ex) tg g) (ht:∀ C s0 H0 ex,PC0 (jbd X scope (own++caps.map (·.1)) C s0 H0 ex) ifs tc)
  (he:∀ C s0 H0 ex,PE (jbd X scope (own++caps.map (·.1)) C s0 H0 ex) elt te) (hs:∀ x,foldedSetIterable iter X.env x=pure x)
  {U:qd} {s:Shared} {Z:St} {H:Hp} {Q:VK} (I:Inv X U Z H s) (h:jsb own.length caps wi g tc te Z H Q)
  (fin:∀ D H5 C s6 r,Inv X U Z H5 s6->FpOk X U H5 C->(∃ m,s6.heap.Ns C m)->Q (.ref D) H5->compPost (model X.prog X.w) X.A X.xe use QS (.ref D) C (.ok r) s6) :
  wpAny (model X.prog X.w) X.A (comprehension (.ListComp elt [⟨tg,iter,ifs,0⟩] scope pos) scope X.env p0 (newList []) false (eval iter X.env) use) QS X.xe s:=by
 have hcl:closureFor scope X.env=pure (clOf X.env.cells scope.names []):=jis fun p hp hf=>I.ok.has p.1 (ck.fre p hp hf)
 refine wpAny_comprehension_free rfl hs hcl ck.kind ck.loc (thn (hi U s Z H _ I h) fun v s1 h1=>thn h1 fun itv s2 h2=>?_);obtain⟨it,fp,tn,Jq,H2,e,I2,T,st2,f2,hw⟩:=h2;subst e;obtain⟨W,⟨m0,w0⟩,turn⟩:=hw s2.heap.objs.size (I2.hok.fresh (zac _));refine wpAny_newObj_type ?_;have hD:=I2.hok.fresh (zac s2.heap.objs.size);have I3:Inv X U Z (upd H2 s2.heap.objs.size (.lst [])) { s2 with heap:=s2.heap.push { cls:=.type "list",data:=.seq ([]:List Value).toArray } } :=
  I2.laid (t':=s2.toks) (fun b u e=>zaz _ e) (zac _) ⟨Nat.zero_le _,[],0,.nil,zbv _ rfl⟩
 have hlt:∀ b∈fp,b<s2.heap.objs.size:=fun b hb=>by obtain⟨o,e,_⟩:=T.obj _ _ st2 b hb;exact zbw e
 have f3:∀ b∈fp,FpOk X U (upd H2 s2.heap.objs.size (.lst [])) b:=fun b hb=>⟨by rw[jar (zcb (hlt b hb))];exact (f2 b hb).1,(f2 b hb).2⟩
 have hlt3:∀ b∈fp,b<(s2.heap.push { cls:=.type "list",data:=.seq ([]:List Value).toArray }).objs.size:=fun b hb=>by rw[Heap.size_push];exact Nat.lt_succ_of_lt (hlt b hb)
 refine wpAny_newFunctionEnv ck.nocell (by intro y hy;simp at hy) (fun h' hns hsb=>?_) ck.kind;generalize hS3:({ s2 with heap:=s2.heap.push { cls:=.type "list",data:=.seq ([]:List Value).toArray } }:Shared)=S3 at I3 hns hsb |-
 have hlt3':∀ b∈fp,b<S3.heap.objs.size:=by rw[<- hS3];exact hlt3
 have I4:=jqu (own:=own) (t':=S3.toks+([]:List (Str×Value)).length) I3 ck f3 hlt3' hns hsb;have st4:tn 0 h':=T.keep _ _ _ st2 fun b hb o e=>hsb.extBut b o (zcb (hlt3' b hb)) (zaz _ (by rw[<- hS3];exact zaz _ e))
 have hsz:s2.heap.objs.size<S3.heap.objs.size:=by rw[<- hS3];show _<(Heap.push _ _).objs.size;rw[Heap.size_push];exact Nat.lt_succ_self _
 generalize hCC:S3.heap.objs.size=C at I4 hsb hns hsz;have loop:codeAny (model X.prog X.w) X.A (.compLoop (.ListComp elt [⟨tg,iter,ifs,0⟩] scope pos) 0 (.ref it) (.ref s2.heap.objs.size) (compEnvC scope (clOf X.env.cells scope.names []) C X.env))
   (compPost (model X.prog X.w) X.A X.xe use QS (.ref s2.heap.objs.size) C) { S3 with heap:=h',toks:=S3.toks+([]:List (Str×Value)).length }:=by
  have xf:∀ {H':Hp},(∀ b∈fp,H' b=none)->∀ b∈fp,FpOk (jbd X scope (own++caps.map (·.1)) C S3 (upd H2 s2.heap.objs.size (.lst [])) fp) [] H' b:=fun hn b hb=>by
   refine⟨hn b hb,?_,?_,.inl hb,fun x c e=>(I4.ok.exf b hb).2 x c e,fun p hp=>absurd (show p∈([]:qd) from hp) (by simp)⟩
   ·exact (I4.ok.exf b hb).1
   ·exact I4.ok.exfs b hb
  refine jf6 (fun n s'=>∃ i Z' H',Inv (jbd X scope (own++caps.map (·.1)) C S3 (upd H2 s2.heap.objs.size (.lst [])) fp) [] Z' H' s'/\tn i s'.heap/\(∀ b∈fp,H' b=none)/\W i n Z' H') ?_ m0
   ⟨0,_,_,I4,st4,fun b hb=>(f3 b hb).1,w0⟩
  rintro n s5 ⟨i,Z5,H5,I5,st5,fr5,w5⟩;rcases turn i n Z5 H5 w5 with ⟨stop,qn⟩|⟨go,N,hN,step⟩
  ·refine thn (T.done (jbd X scope (own++caps.map (·.1)) C S3 (upd H2 s2.heap.objs.size (.lst [])) fp) rfl rfl rfl hc i [] s5 Z5 H5 NoX I5 (xf fr5) st5 stop) fun r s6 hzz=>?_
   obtain⟨hr,I6⟩:=hzz;subst hr;obtain⟨m6,n6,_⟩:=id I6.loc;have C3:S3.heap.objs.size<=C:=Nat.le_of_eq hCC;have I7:Inv X U Z H5 s6:=I3.call' (s':=s6) (ch:=fp) I6.os (jvd I6.base C3 (Heap.SameBut.refl _ _)) I6.hok I6.bare fun b hb=>by
    obtain⟨_,q1,_,q3,q4,q5⟩:=f3 b hb;exact⟨q3,q1,q4,q5⟩
   exact fin _ _ _ _ _ I7 (I3.fpOk C3 I6.free) ⟨m6,n6⟩ qn
  ·refine thn (T.item (jbd X scope (own++caps.map (·.1)) C S3 (upd H2 s2.heap.objs.size (.lst [])) fp) rfl rfl rfl hc i [] s5 Z5 H5 NoX I5 (xf fr5) st5 go) fun r s6 hzz=>?_
   obtain⟨u,hr,h6⟩:=hzz;subst hr;refine thn h6 fun _ s7 hzz=>?_
   obtain⟨x,H7,I7,r7,y7,st7,fr7⟩:=hzz;have I7':=I7.pinned (xf fr7) (T.obj _ _ st7);refine thn (hg _ _ _ _ _ s7 Z5 H7 x u _ I7' r7 (step x H7 y7)) fun _ s8 hzz=>?_
   obtain⟨Z8,H8,I8,q8⟩:=hzz;refine thn (ht _ _ _ _ _ s8 Z8 H8 _ I8 q8) fun ok s9 hzz=>?_
   obtain⟨H9,I9,q9⟩:=hzz;have again:∀ {s':Shared} {Z':St} {H':Hp},Inv (jbd X scope (own++caps.map (·.1)) C S3 (upd H2 s2.heap.objs.size (.lst [])) fp) ([]++jk1 fp s7.heap) Z' H' s'->N Z' H'->∃ m,m<n/\∃ i Z' H',Inv (jbd X scope (own++caps.map (·.1)) C S3 (upd H2 s2.heap.objs.size (.lst [])) fp) [] Z' H' s'/\tn i s'.heap/\(∀ b∈fp,H' b=none)/\W i m Z' H':=fun {s' Z' H'} Ia na=>by
    obtain⟨m',hm,wa⟩:=hN Z' H' na;refine⟨m',hm,i+1,Z',H',Ia.unpinned,T.keep _ _ _ st7 fun b hb o e=>(Ia.pin (b,o) (zcz _ (zcz _ (jco hb e)))).1,fun b hb=>?_,wa⟩;obtain⟨o,e,d⟩:=T.obj _ _ st7 b hb;exact (Ia.pin (b,o) (zcz _ (zcz _ (jco hb e)))).2.1
   cases ok with
   | false =>
    rw[if_neg (by decide)] at q9 |-
    exact again I9 q9
   | true =>
    rw[if_pos rfl] at q9 |-
    refine thn (he _ _ _ _ _ s9 Z8 H9 _ I9 q9) fun y s10 hzz=>?_
    obtain⟨vy,H10,I10,r10,ys,hys,hlen,q10⟩:=hzz;refine thn (jgd _ s10 Z8 H10 (.ref s2.heap.objs.size) [vy] (.ref s2.heap.objs.size) [y] (fun _ H'=>N Z8 H') I10 rfl (.cons r10 .nil) ⟨_,ys,vy,rfl,rfl,hys,hlen,q10⟩) fun _ s11 hzz=>?_
    obtain⟨_,H11,I11,_,q11⟩:=hzz;exact again I11 q11
 exact codeAny_compStart_list loop (T.self _ 0 _ _ _ st4 loop)
theorem juv{elt tg iter:Expr}{ifs:List Expr}{scope:Scope}{pos pos' cpos:Pos}{own:List Str}{caps:qh}{wi:TI}{g:TG}{tc:TT}{te:TE}{i:Nat}{x:Str}(hc:X.calm=true)(ck:CapsOk X scope caps)
  (hi:PI X tg iter wi) (hg:∀ C s0 H0 ex,PG (jbd X scope (own++caps.map (·.1)) C s0 H0 ex) tg g) (ht:∀ C s0 H0 ex,PC0 (jbd X scope (own++caps.map (·.1)) C s0 H0 ex) ifs tc)
  (he:∀ C s0 H0 ex,PE (jbd X scope (own++caps.map (·.1)) C s0 H0 ex) elt te) (hN:X.N.Nodup) (hix:X.N[i]? = some x) (hx:Loc X.env.scope x) (hsw:swapsWith (.ListComp elt [⟨tg,iter,ifs,0⟩] scope cpos) (some (.Name x pos')) pos.line X.env=pure true)
  (hf:X.fn x=true\/X.env.scope.names.lookup x=some .local) (hs:∀ x,foldedSetIterable iter X.env x=pure x) :
  PS X (.Assign [.Name x pos'] (.ListComp elt [⟨tg,iter,ifs,0⟩] scope cpos) pos) (fun Dn Z H=>jsb own.length caps wi g tc te Z H fun v H'=>Dn.nx (Z.set i (some v)) H'):=by
 intro U s Z H Dn I h;rw[exec_Assign_Name_used _ _ _ _ hsw];refine zay (wpAny_standAt (zay ?_))
 show wpAny _ X.A (do let _ <- comprehension (.ListComp elt [⟨tg,iter,ifs,0⟩] scope cpos) scope X.env _ (newList []) false (eval iter X.env) (some (assign (.Name x pos') X.env))) _ _ s;refine zay (thn (jsy (use:=some (assign (.Name x pos') X.env)) (QS:=fun _ s'=>SP X U Dn .next s') hc ck hi hg ht he hs I h ?_) fun _ s' hq=>zab (zab hq));intro D H5 C s6 r I6 fc ⟨m6,n6⟩ qn;obtain⟨f1,f2,f3,f4,f5,f6⟩:=fc;show wpAny (model X.prog X.w) X.A (assign (.Name x pos') X.env (.ref D)) (fun _ s''=>∃ m,s''.heap.Ns C m/\∀ h',Heap.SameBut C s''.heap h'->SP X U Dn .next { s'' with heap:=h' }) X.xe s6;refine wpAny_assign_Name (jos I6 hN hix hx (v:=.ref D) rfl (fun s7 I7 hzz=>?_) hf);obtain⟨a,sba,ha⟩:=hzz;have hCa:C≠a:=by
  rcases ha with ha|ha
  ·rw[ha];exact f2
  ·exact fun z=>f5 x a ha z.symm
 refine⟨m6,n6.sameBut sba hCa,fun h8 sb8=>⟨_,H5,I7.turned (fun b o hb e=>(sb8.2 b hb).trans e) f1 f2 f4 f5 f6,qn⟩⟩
end
end L2
namespace DL
open L2
theorem jsz{K:W.Frag}{O:List Nat}{E:XK}{own:Nat}{caps:qh}{fi:DSt->M (List D)}{h:D->DSt->Option DSt}{tc:DSt->M Bool}{fe:DSt->M D}{Z:St}{H:Hp}{Q:VK}(hcf:jgn O caps=true)
  (hh:tD K O E (jce own caps fi h tc fe) Z H Q):jsb own caps (tI K O E fi) (tG K [] h) (tB K [] E0 tc) (tD K [] E0 fe) Z H Q:=by
 obtain⟨J,Hz,F,Y,r,R,hf,k⟩:=hh;rcases M.b_inv hf with ⟨ds,e1,hf⟩|⟨y,e1,rfl⟩
 ·refine⟨J,Hz,F,Y,.ok ds,R,e1,fun Jq H1 s1 it Dd hD=>?_⟩;obtain⟨dd,hd,rfl⟩:=M.o_inv hf
  cases hcd:jb0 h tc fe ds (jcf own caps Y) with
  | none=>rw[hcd] at hd;cases hd
  | some tot =>
   rw[hcd] at hd;have hd':jbi tot=some dd:=hd;unfold jbi at hd'
   split at hd'
   ·rename_i hz;cases hd';have R1:=R.mono s1;have pf:=R1.fresh hD
    let F':qf:=fun b=>fob F Z O b || b == Dd
    have F't:∀ b,F' b=true↔fob F Z O b=true\/b=Dd:=fun b=>by show (_ || _)=true↔_;rw[Bool.or_eq_true,beq_iff_eq]
    have vis:∀ {H2:Hp},Same H1 H2->Same (hid H1 (fob F Z O)) (hid H2 F'):=fun {H2} e b o q=>by
     obtain⟨q1,q2⟩:=hid_some.mp q;refine hid_some.mpr ⟨?_,e b o q2⟩
     cases z:F' b with
     | false=>rfl
     | true =>
      rcases (F't b).mp z with z|z
      ·rw[q1] at z;cases z
      ·rw[z,hD] at q2;cases q2
    have R0:RS J K H1 (upd H1 Dd (.lst [])) F' [] (jbq own caps Z) (jcf own caps Y):=by
     refine⟨by simp[jbq,jcf],jax hD,fun b hb=>?_,fun i d hd _=>?_,fun i hi=>absurd hi (by simp),fun i hi=>absurd hi (by simp)⟩
     ·rcases (F't b).mp hb with z|z
      ·refine jfu fun q=>?_
       rw[R1.fresh q] at z;cases z
      ·rw[z,jaq];exact fun q=>nomatch q
     ·obtain⟨p,p1,p2,p3⟩:=jgv hd;have hO:p.2∉O:=fun z=>by
       have:=List.all_eq_true.mp hcf p (zdv p1);rw[zcx.mpr z] at this;cases this
      obtain⟨v,q1,q2⟩:=R1.val p.2 d p3 hO;exact⟨v,jic p1 p2 q1,by rw[ja8];exact q2.mono (vis (jax hD))⟩
    refine⟨fun i m Z' H'=>m=ds.length-i/\i<=ds.length/\∃ Y' done zs rest,RS J K H1 H' F' [] Z' Y'/\H' Dd=some (.lst zs)/\Reps J K (hid H' F') done zs/\jb0 h tc fe (ds.drop i) Y'=some rest/\done++rest=tot,
     ⟨ds.length,by simp,Nat.zero_le _,_,[],[],tot,R0,jaq,Reps.nil,hcd,rfl⟩,?_⟩
    rintro i m Z' H' ⟨rfl,hil,Y',done,zs,rest,R',hDd,rz,hr,htot⟩;have fv:Same (hid H1 (fob F Z O)) (hid H' (fob F' Z' [])):=by rw[ja8];exact vis R'.same
    obtain⟨j1,j2⟩:=it H' (fob F' Z' []) i fv fun p hp=>R'.fresh hp
    by_cases hlt:i<ds.length
    ·obtain⟨go,yld⟩:=j1 hlt;refine .inr ⟨go,fun Z2 H2=>∃ Y2 done zs rest,RS J K H1 H2 F' [] Z2 Y2/\H2 Dd=some (.lst zs)/\Reps J K (hid H2 F') done zs/\jb0 h tc fe (ds.drop (i+1)) Y2=some rest/\done++rest=tot,
      fun Z2 H2 q=>⟨ds.length-(i+1),by omega,rfl,hlt,q⟩,fun x H2 y=>?_⟩
     obtain⟨s2,d,hd,rd⟩:=yld x H2 y;have hdr:ds.drop i=d::ds.drop (i+1):=by
      rw[List.drop_eq_getElem_cons hlt];have:ds[i]=d:=by rw[zax hlt] at hd;exact zbz hd
      rw[this]
     rw[hdr] at hr;unfold jb0 at hr
     cases e2:h d Y' with
     | none=>rw[e2] at hr;cases hr
     | some Y1 =>
      rw[e2] at hr;dsimp only at hr;refine⟨J,H1,F',Y',d,Y1,R'.mono s2,rd,e2,fun Z3 ef R3=>?_⟩;have keepD:∀ {H5:Hp},Same H2 H5->H5 Dd=some (.lst zs)/\Reps J K (hid H5 F') done zs:=fun {H5} e=>⟨e _ _ (s2 _ _ hDd),rz.mono (jan (s2.trans e))⟩
      split at hr
      ·rename_i e3;refine⟨J,H1,F',Y1,.ok true,R3,e3,fun H4 s4=>iteT ?_⟩
       split at hr
       ·rename_i yv e4;refine⟨J,H1,F',Y1,.ok yv,R3.mono s4,e4,fun v H5 s5 r5=>?_⟩;rw[ja8] at r5;obtain⟨k1,k2⟩:=keepD (s4.trans s5)
        cases e5:jb0 h tc fe (ds.drop (i+1)) Y1 with
        | none=>rw[e5] at hr;cases hr
        | some rest' =>
         rw[e5] at hr;have hr':yv::rest'=rest:=zbz hr;have hFD:F' Dd=true:=(F't Dd).mpr (.inr rfl);have hh:hid (upd H5 Dd (.lst (zs++[v]))) F'=hid H5 F':=jc1 hFD;refine⟨zs,k1,?_,Y1,done++[yv],zs++[v],rest',?_,jaq,?_,e5,by rw[List.append_assoc,<- htot,<- hr'];rfl⟩
         ·have l1:=k2.length;have l2:=congrArg List.length htot;rw[zdb,<- hr',List.length_cons] at l2;omega
         ·have R5:=R3.mono (s4.trans s5);refine⟨R5.len,jgi R5.same hD,fun b hb=>jfu (R5.fin b hb),fun j d' hj hO=>?_,fun j hj=>absurd hj (by simp),fun j hj=>absurd hj (by simp)⟩;obtain⟨v',w1,w2⟩:=R5.val j d' hj hO;refine⟨v',w1,?_⟩;rw[ja8] at w2 |-
          rw[hh];exact w2
         ·rw[hh];exact k2.append (Reps.cons r5 Reps.nil)
       ·cases hr
      ·rename_i e3;refine⟨J,H1,F',Y1,.ok false,R3,e3,fun H4 s4=>iteF ?_⟩;obtain⟨k1,k2⟩:=keepD s4;exact⟨Y1,done,zs,rest,R3.mono s4,k1,k2,hr,htot⟩
      ·cases hr
    ·have ei:i=ds.length:=by omega
     subst ei;rw[List.drop_length] at hr;cases hr;rw[List.append_nil] at htot;subst htot;refine .inl ⟨j2 rfl,k _ H' (s1.trans R'.same) ?_⟩;exact rep_lst.mpr ⟨Dd,zs,rfl,SqL.of (hid_some.mpr ⟨pf,hDd⟩),rz.mono (jek fun b q=>(F't b).mpr (.inl q))⟩
   ·cases hd'
 ·exact⟨J,Hz,F,Y,.error y,R,e1,k⟩
section
variable {X:Cx}{O B:List Nat}{E:XK}{elt tg iter:Expr}{pos:Pos}
theorem jmn{i:Nat}{x:Str}{pos' cpos:Pos}{ifs:List Expr}{scope:Scope}{own:List Str}{caps:qh}{fi:DSt->M (List D)}{h:D->DSt->Option DSt}{tc:DSt->M Bool}{fe:DSt->M D}(hN:X.N.Nodup)(hc:X.calm=true)(ck:CapsOk X scope caps)(hi:DI X O E tg iter fi)
  (hg:∀ C s0 H0 ex,DG (jbd X scope (own++caps.map (·.1)) C s0 H0 ex) [] tg h) (ht:∀ C s0 H0 ex,DC (jbd X scope (own++caps.map (·.1)) C s0 H0 ex) [] E0 ifs tc)
  (he:∀ C s0 H0 ex,DE (jbd X scope (own++caps.map (·.1)) C s0 H0 ex) [] E0 elt fe) (ho:autoParam (O.contains i=false) zau2._auto_1) (hix:autoParam (X.N[i]? = some x) zau2._auto_1) (hx:autoParam (Loc X.env.scope x) zau7._auto_1)
  (hsw:autoParam (swapsWith (.ListComp elt [⟨tg,iter,ifs,0⟩] scope cpos) (some (.Name x pos')) pos.line X.env=pure true) zau2._auto_1)
  (hf:autoParam (qi X x) zau0._auto_1) (hcf:autoParam (jgn O caps=true) zau2._auto_1) (hs:autoParam (∀ x,foldedSetIterable iter X.env x=pure x) zau3._auto_1) :
  DS X O O B E (.Assign [.Name x pos'] (.ListComp elt [⟨tg,iter,ifs,0⟩] scope cpos) pos) (gSet i (jce own.length caps fi h tc fe)):=by
 rintro U s Z H Dn I ⟨J,Hz,F,Y,r,R,hg',k⟩;have ho':i∉O:=fun z=>by rw[zcx.mpr z] at ho;cases ho
 refine juv (own:=own) (g:=tG X.K [] h) (tc:=tB X.K [] E0 tc) (te:=tD X.K [] E0 fe) hc ck hi hg ht he hN hix hx hsw hf hs U s Z H Dn I (jsz hcf ?_);rcases M.b_inv hg' with ⟨d,e1,hg'⟩|⟨y,e1,rfl⟩
 ·cases hg';exact⟨J,Hz,F,Y,.ok d,R,e1,fun v H' s' r'=>k _ H' (jq7 ho' s') ((R.mono s').set ho' r')⟩
 ·exact⟨J,Hz,F,Y,.error y,R,e1,k⟩
end
end DL
namespace DL
open L2 PyProof.Rows
section
noncomputable def jFx:List D->Option D
 | [.lst [.int i,.int j]]=>some (.int (if j<i then j else i))
 | _=>none
@[simp] theorem kmin1(i j:Int):jFx [.lst [.int i,.int j]]=some (.int (if j<i then j else i)):=rfl
end
end DL
namespace L2
open PyProof.Rows
section
variable {s:Shared}
inductive RgEnd(s:Shared)(n:Nat)(q:Result)(s':Shared):Prop
 | mk (h':Heap) (tk:Nat) (acc:Array Value) (c:Nat) (e1:q=.ok (.ret (.ref s.heap.objs.size))) (e2:s'={ s with heap:=h',toks:=tk }) (k:∀ b o,s.heap.get? b=some o->h'.get? b=some o)
   (at':h'.get? s.heap.objs.size=some { cls:=.type "list",dict:=none,data:=.seq acc c,slots:=#[] }) (got:ItemsOf (fun i v=>∃ t,v=Value.int ((0:Int)+i*1) t) acc n)
end
open Att
noncomputable def jx2{α:Type}(c:Nat->Nat->Bool):W.KasT α->α
 | .ret a=>a
 | .ask i j k=>jx2 c (k (c i j))
noncomputable def jwh{α:Type}(n:Nat):W.KasT α->Bool
 | .ret _=>true
 | .ask i j k=>decide (i<n)&&decide (j<n)&&jwh n (k true)&&jwh n (k false)
def jr8(keys:List Int)(n:Nat):List Nat:=(jx2 (fun i j=>decide (keys.getD i 0<keys.getD j 0)) (W.kas_sort n)).toList
section
variable {L:Addr}{m:qc}{h:Heap}
structure Lk(L:Addr)(m:qc)(h h':Heap):Prop where
 k:∀ b o,b≠L->h.get? b=some o->h'.get? b=some o
 ns:h'.Ns L m
end
section
end
section
end
end L2
namespace DL
open L2
section
end
inductive CdOf(K:W.Frag)(mg:qc)(x:Str)(cdv:Value):Prop
 | mk (f:Addr) (oc:Value) (od:Option Addr) (fd:FuncData) (osl:qg) (h1:mg x=some (.ref f)) (h2:K.lookup f=some ⟨oc,od,.func fd,osl⟩) (h3:fd.code=cdv)
def ordD(n:Int)(rs:List D):Option (List D):=match jiv rs with
 | some ks=>if 2<=n/\n<64/\(ks.length:Int)=n/\jwh n.toNat (W.kas_sort n.toNat)=true/\(jr8 (ks.map fun k=>-k) n.toNat).all (fun i=>decide (i<n.toNat))=true/\(jr8 (ks.map fun k=>-k) n.toNat).length<=64 then
   some ((jr8 (ks.map fun k=>-k) n.toNat).map fun i=>.int (Int.ofNat i)) else none
 | none=>none
inductive SortI(x:Str)(l c:Nat)(q:Str)(ir:Nat)(Y:DSt)(ds:List D)(Ω Ω':Sto)(r:Except XD D):Prop
 | mk (n:Int) (rs es:List D) (h1:ds=[.int n]) (h2:Y[ir]? = some (some (.lst rs))) (h3:Ω[0]? = some (.tab x l c q)) (h4:ordD n rs=some es) (h5:r=.ok (.lst es)) (h6:Ω'=Ω)
inductive OrdI(n:Int)(rs es:List D):Prop
 | mk (N:Nat) (ks:List Int) (h1:n=N) (h2:rs=ks.map .int) (h3:2<=N) (h4:N<64) (h5:ks.length=N) (h6:jwh N (W.kas_sort N)=true) (h7:∀ i∈jr8 (ks.map fun k=>-k) N,i<N) (h8:(jr8 (ks.map fun k=>-k) N).length<=64) (h9:es=(jr8 (ks.map fun k=>-k) N).map fun i=>.int (Int.ofNat i))
end DL
namespace DL
open PyProof.Rows L2
section
end
section
end
noncomputable def jyx(T:Addr)(K:W.Frag):W.Frag:=K.filter fun p=>!(p.1 == T)
section
variable {K:W.Frag}{T:Addr}
variable (hT:K.lookup T=some ⟨.none,none,.fields #[],#[]⟩)
include hT
end
inductive LawT(P:Program)(w:World)(K:W.Frag)(mg:qc)(n k:Nat)(x:Str)(fa:Addr):Prop
 | mk (T c:Addr) (fd:FuncData) (sp:Sp) (h1:K.lookup T=some ⟨.none,none,.fields #[],#[]⟩) (h2:W.codeHdIn K c T=true) (h3:∀ (s:Shared) (u:Value),BindsTo s fd ⟨[u],[]⟩ [(x,u)])
   (h4:∀ base:Heap,(jyx T K).In base->base.Ns mainGlobals mg->FnOk P w (jyx T K) mg base CX0 k fa fd [x] sp)
   (h5:∀ (H:Hp) (a:Addr) (ns:List Int),ns.length<=n->H T=some (.tbl #[])->SqL (jyx T K) H a (ns.map V.int)->sp [.ref a] H (fun v _=>v=.bl true) fun _ _ _=>False)
theorem jvs{J:Rho}{K:W.Frag}{O:List Nat}{E:XK}{own:Nat}{caps:qh}{fi:DSt->M (List D)}{h:D->DSt->Option DSt}{tc:DSt->M Bool}{fe:DSt->M D}{Z:L2.St}{Hz H:Hp}{F:qf}{Y:DSt}{Q:VK}{d:D}(hcf:jgn O caps=true)
  (R:RS J K Hz H F O Z Y) (hf:jce own caps fi h tc fe Y=some (.ok d))
  (k:∀ tot,d=.lst tot->∀ (Dd:Addr) zs H1 H',Same H H1->H1 Dd=none->Same H1 H'->H' Dd=some (.lst zs)->Reps J K (hid H' fun b=>fob F Z O b || b == Dd) tot zs->Q (.ref Dd) H'):jsb own caps (tI K O E fi) (tG K [] h) (tB K [] E0 tc) (tD K [] E0 fe) Z H Q:=by
 rcases M.b_inv hf with ⟨ds,e1,hf⟩|⟨y,e1,z⟩
 ·refine⟨J,Hz,F,Y,.ok ds,R,e1,fun Jq H1 s1 it Dd hD=>?_⟩;obtain⟨dd,hd,ee⟩:=M.o_inv hf;cases ee
  cases hcd:jb0 h tc fe ds (jcf own caps Y) with
  | none=>rw[hcd] at hd;cases hd
  | some tot =>
   rw[hcd] at hd;have hd':jbi tot=some d:=hd;unfold jbi at hd'
   split at hd'
   ·rename_i hz;cases hd';have R1:=R.mono s1;have pf:=R1.fresh hD
    let F':qf:=fun b=>fob F Z O b || b == Dd
    have F't:∀ b,F' b=true↔fob F Z O b=true\/b=Dd:=fun b=>by show (_ || _)=true↔_;rw[Bool.or_eq_true,beq_iff_eq]
    have vis:∀ {H2:Hp},Same H1 H2->Same (hid H1 (fob F Z O)) (hid H2 F'):=fun {H2} e b o q=>by
     obtain⟨q1,q2⟩:=hid_some.mp q;refine hid_some.mpr ⟨?_,e b o q2⟩
     cases z:F' b with
     | false=>rfl
     | true =>
      rcases (F't b).mp z with z|z
      ·rw[q1] at z;cases z
      ·rw[z,hD] at q2;cases q2
    have R0:RS J K H1 (upd H1 Dd (.lst [])) F' [] (jbq own caps Z) (jcf own caps Y):=by
     refine⟨by simp[jbq,jcf],jax hD,fun b hb=>?_,fun i d hd _=>?_,fun i hi=>absurd hi (by simp),fun i hi=>absurd hi (by simp)⟩
     ·rcases (F't b).mp hb with z|z
      ·refine jfu fun q=>?_
       rw[R1.fresh q] at z;cases z
      ·rw[z,jaq];exact fun q=>nomatch q
     ·obtain⟨p,p1,p2,p3⟩:=jgv hd;have hO:p.2∉O:=fun z=>by
       have:=List.all_eq_true.mp hcf p (zdv p1);rw[zcx.mpr z] at this;cases this
      obtain⟨v,q1,q2⟩:=R1.val p.2 d p3 hO;exact⟨v,jic p1 p2 q1,by rw[ja8];exact q2.mono (vis (jax hD))⟩
    refine⟨fun i m Z' H'=>m=ds.length-i/\i<=ds.length/\∃ Y' done zs rest,RS J K H1 H' F' [] Z' Y'/\H' Dd=some (.lst zs)/\Reps J K (hid H' F') done zs/\jb0 h tc fe (ds.drop i) Y'=some rest/\done++rest=tot,
     ⟨ds.length,by simp,Nat.zero_le _,_,[],[],tot,R0,jaq,Reps.nil,hcd,rfl⟩,?_⟩
    rintro i m Z' H' ⟨rfl,hil,Y',done,zs,rest,R',hDd,rz,hr,htot⟩;have fv:Same (hid H1 (fob F Z O)) (hid H' (fob F' Z' [])):=by rw[ja8];exact vis R'.same
    obtain⟨j1,j2⟩:=it H' (fob F' Z' []) i fv fun p hp=>R'.fresh hp
    by_cases hlt:i<ds.length
    ·obtain⟨go,yld⟩:=j1 hlt;refine .inr ⟨go,fun Z2 H2=>∃ Y2 done zs rest,RS J K H1 H2 F' [] Z2 Y2/\H2 Dd=some (.lst zs)/\Reps J K (hid H2 F') done zs/\jb0 h tc fe (ds.drop (i+1)) Y2=some rest/\done++rest=tot,
      fun Z2 H2 q=>⟨ds.length-(i+1),by omega,rfl,hlt,q⟩,fun x H2 y=>?_⟩
     obtain⟨s2,d,hd,rd⟩:=yld x H2 y;have hdr:ds.drop i=d::ds.drop (i+1):=by
      rw[List.drop_eq_getElem_cons hlt];have:ds[i]=d:=by rw[zax hlt] at hd;exact zbz hd
      rw[this]
     rw[hdr] at hr;unfold jb0 at hr
     cases e2:h d Y' with
     | none=>rw[e2] at hr;cases hr
     | some Y1 =>
      rw[e2] at hr;dsimp only at hr;refine⟨J,H1,F',Y',d,Y1,R'.mono s2,rd,e2,fun Z3 ef R3=>?_⟩;have keepD:∀ {H5:Hp},Same H2 H5->H5 Dd=some (.lst zs)/\Reps J K (hid H5 F') done zs:=fun {H5} e=>⟨e _ _ (s2 _ _ hDd),rz.mono (jan (s2.trans e))⟩
      split at hr
      ·rename_i e3;refine⟨J,H1,F',Y1,.ok true,R3,e3,fun H4 s4=>iteT ?_⟩
       split at hr
       ·rename_i yv e4;refine⟨J,H1,F',Y1,.ok yv,R3.mono s4,e4,fun v H5 s5 r5=>?_⟩;rw[ja8] at r5;obtain⟨k1,k2⟩:=keepD (s4.trans s5)
        cases e5:jb0 h tc fe (ds.drop (i+1)) Y1 with
        | none=>rw[e5] at hr;cases hr
        | some rest' =>
         rw[e5] at hr;have hr':yv::rest'=rest:=zbz hr;have hFD:F' Dd=true:=(F't Dd).mpr (.inr rfl);have hh:hid (upd H5 Dd (.lst (zs++[v]))) F'=hid H5 F':=jc1 hFD;refine⟨zs,k1,?_,Y1,done++[yv],zs++[v],rest',?_,jaq,?_,e5,by rw[List.append_assoc,<- htot,<- hr'];rfl⟩
         ·have l1:=k2.length;have l2:=congrArg List.length htot;rw[zdb,<- hr',List.length_cons] at l2;omega
         ·have R5:=R3.mono (s4.trans s5);refine⟨R5.len,jgi R5.same hD,fun b hb=>jfu (R5.fin b hb),fun j d' hj hO=>?_,fun j hj=>absurd hj (by simp),fun j hj=>absurd hj (by simp)⟩;obtain⟨v',w1,w2⟩:=R5.val j d' hj hO;refine⟨v',w1,?_⟩;rw[ja8] at w2 |-
          rw[hh];exact w2
         ·rw[hh];exact k2.append (Reps.cons r5 Reps.nil)
       ·cases hr
      ·rename_i e3;refine⟨J,H1,F',Y1,.ok false,R3,e3,fun H4 s4=>iteF ?_⟩;obtain⟨k1,k2⟩:=keepD s4;exact⟨Y1,done,zs,rest,R3.mono s4,k1,k2,hr,htot⟩
      ·cases hr
    ·have ei:i=ds.length:=by omega
     subst ei;rw[List.drop_length] at hr;cases hr;rw[List.append_nil] at htot;subst htot;exact .inl ⟨j2 rfl,k _ rfl Dd zs H1 H' s1 hD R'.same hDd rz⟩
   ·cases hd'
 ·cases z
section
variable {X:Cx}{O B:List Nat}{E:XK}{elt tg iter:Expr}{pos:Pos}
theorem jo9{i:Nat}{x:Str}{pos' cpos:Pos}{ifs:List Expr}{scope:Scope}{own:List Str}{caps:qh}{fi:DSt->M (List D)}{h:D->DSt->Option DSt}{tc:DSt->M Bool}{fe:DSt->M D}(hN:X.N.Nodup)(hc:X.calm=true)(ck:CapsOk X scope caps)(hi:DI X O E tg iter fi)
  (hg:∀ C s0 H0 ex,DG (jbd X scope (own++caps.map (·.1)) C s0 H0 ex) [] tg h) (ht:∀ C s0 H0 ex,DC (jbd X scope (own++caps.map (·.1)) C s0 H0 ex) [] E0 ifs tc)
  (he:∀ C s0 H0 ex,DE (jbd X scope (own++caps.map (·.1)) C s0 H0 ex) [] E0 elt fe) (ho:autoParam (O.contains i=false) zau2._auto_1) (hix:autoParam (X.N[i]? = some x) zau2._auto_1) (hx:autoParam (Loc X.env.scope x) zau7._auto_1)
  (hsw:autoParam (swapsWith (.ListComp elt [⟨tg,iter,ifs,0⟩] scope cpos) (some (.Name x pos')) pos.line X.env=pure true) zau2._auto_1)
  (hf:autoParam (qi X x) zau0._auto_1) (hcf:autoParam (jgn O caps=true) zau2._auto_1) (hs:autoParam (∀ x,foldedSetIterable iter X.env x=pure x) zau3._auto_1) :
  DS X O (i::O) B E (.Assign [.Name x pos'] (.ListComp elt [⟨tg,iter,ifs,0⟩] scope cpos) pos) (gSet i (jce own.length caps fi h tc fe)):=by
 rintro U s Z H Dn I ⟨J,Hz,F,Y,r,R,hg',k⟩;have ho':i∉O:=fun z=>by rw[zcx.mpr z] at ho;cases ho
 have hl:i<Y.length:=by rw[<- R.len,I.len];exact (zbc.mp hix).1
 refine juv (own:=own) (g:=tG X.K [] h) (tc:=tB X.K [] E0 tc) (te:=tD X.K [] E0 fe) hc ck hi hg ht he hN hix hx hsw hf hs U s Z H Dn I ?_;rcases M.b_inv hg' with ⟨d,e1,hg'⟩|⟨y,e1,rfl⟩
 ·cases hg';refine jvs hcf R e1 fun tot ht Dd zs H1 H' s1 hD s2 hDd rz=>?_
  subst ht
  let H3:Hp:=fun b=>if b=Dd then none else H' b
  have h3:H3 Dd=none:=if_pos rfl;have n3:∀ b,b≠Dd->H3 b=H' b:=fun b hb=>if_neg hb
  have e3:upd H3 Dd (.lst zs)=H':=by
   funext b
   by_cases hb:b=Dd
   ·subst hb;rw[jaq,hDd]
   ·rw[jar hb,n3 b hb]
  have s3:Same H H3:=fun b o q=>by
   have q1:=s1 b o q;rw[n3 b (jaz q1 hD)];exact s2 b o q1
  have eh:hid H3 (fob F Z O)=hid H' (fun b=>fob F Z O b || b == Dd):=by
   funext b
   unfold hid
   by_cases hb:b=Dd
   ·subst hb;rw[h3];simp
   ·rw[n3 b hb];have:(b == Dd)=false:=by simpa using hb
    simp only[this,Bool.or_false]
  have T:=R.take (i:=i) (ds:=tot) (xs:=zs) ho' hl s3 h3 (by rw[eh];exact rz);rw[e3] at T;refine k _ _ ?_ T;have pf:=(R.mono s3).fresh h3;have lZ:i<Z.length:=by rw[R.len];exact hl
  intro b o q;obtain⟨q1,q2⟩:=hid_some.mp q;have q3:=s3 b o q2;have hb:b≠Dd:=jaz q3 h3;refine hid_some.mpr ⟨?_,by rw[<- n3 b hb];exact q3⟩
  cases z:fob F (Z.set i (some (.ref Dd))) (i::O) b with
  | false=>rfl
  | true =>
   rcases fob_t.mp z with z|⟨j,hj,z⟩
   ·rw[fob_t.mpr (.inl z)] at q1;cases q1
   ·rcases List.mem_cons.mp hj with rfl|hj
    ·rw[zcv lZ] at z;cases z;exact absurd rfl hb
    ·rw[zba (by rintro rfl;exact ho' hj)] at z;rw[fob_t.mpr (.inr ⟨j,hj,z⟩)] at q1;cases q1
 ·exact jsz hcf ⟨J,Hz,F,Y,.error y,R,e1,k⟩
end
end DL
namespace DL
open L2
section
end
def jEw(Ω:Sto):D->Option (List D)
 | .obj n=>match Ω[n]? with
  | some (.lst ds)=>if ds.all scalD=true then some ds else none
  | _=>none
 | d=>seqD d
section
variable {J:Rho}{S:qf}{H:Hp}{K:W.Frag}
inductive WalkI(J:Rho)(K:W.Frag)(S G0:qf)(H:Hp)(ds:List D)(v:V):Prop
 | mk (k:Bool) (l:Addr) (xs:List V) (e:v=.ref l) (h:∀ G:qf,(∀ b,G b=true->G0 b=true)->(S l=true->G l=false)->SqV k K (hid H G) l xs/\Reps J K (hid H G) ds xs)
end
inductive CompZI(own:Nat)(caps:qh)(h:D->DSt->Option DSt)(tc:DSt->M Bool)(fe:DSt->M D)(Y:DSt)(xs:List D)(Ω:Sto)(tot:List D):Prop
 | mk (x y:D) (ds es:List D) (h1:xs=[x,y]) (h2:jEw Ω x=some ds) (h3:jEw Ω y=some es) (h4:jb0 h tc fe (zipD ds es) (jcf own caps Y)=some tot) (h5:tot.length<=sizeLine) (h6:tot.all scalD=true)
section
end
section
end
section
inductive TupSI(xs:List D)(Ω Ω':Sto)(r:Except XD D):Prop
 | mk (n:Nat) (ds:List D) (h1:xs=[.obj n]) (h2:Ω[n]? = some (.lst ds)) (h3:ds.all scalD=true) (h4:r=.ok (.tup ds)) (h5:Ω'=Ω)
end
end DL
namespace L2
open PyProof.Rows
end L2
namespace DL
open PyProof.Rows L2
noncomputable def orA(G:qf)(l:Addr):qf:=fun b=>G b || b == l
inductive spF(K:W.Frag)(mg:qc)(n:Nat)(m:List D->MS D)(vs:List V)(H:Hp)(Q:VK)(E:XK):Prop
 | mk (hn:vs.length=n) (J:Rho) (S F:qf) (ds:List D) (Ω:Sto) (hF:∀ b,F b=true->H b≠none) (hS:∀ b,F b=true->S b=false) (hr:Reps J K (hid H (un F S)) ds vs) (hs:StoOk J S K mg H (hid H (un F S)) Ω) (es:List D) (Ω':Sto) (hf:m ds Ω=some (.ok (.lst es),Ω'))
   (k:∀ (l:Addr) zs J' S' H',RLe J J'->(∀ b o,S b=false->H b=some o->H' b=some o)->(∀ b,S b=true->S' b=true)->(∀ b,S' b=true->S b=true\/H b=none)->(∀ b,F b=true->S' b=false)->StoOk J' S' K mg H' (hid H' (orA (un F S') l)) Ω' ->
    H l=none->H' l=some (.lst zs)->S' l=false->Reps J' K (hid H' (orA (un F S') l)) es zs->Q (.ref l) H')
structure CalF(P:Program)(w:World)(K:W.Frag)(mg:qc)(base:Heap)(k:Nat)(x:Str)(n:Nat)(m:List D->MS D):Prop where
 ex:CalX P w K mg base k x n (spF K mg n m)
 ar:∀ ds Ω r,m ds Ω=some r->ds.length=n
 ls:∀ ds Ω r Ω',m ds Ω=some (r,Ω')->∃ es,r=.ok (.lst es)
inductive PickF(i:Nat)(q:Option (Except XD Out×Sto))(es:List D)(Ω':Sto):Prop
 | mk (Y':DSt) (h1:q=some (.ok (.nx Y'),Ω')) (h2:Y'[i]? = some (some (.lst es)))
section
end
section
end
end DL
namespace L2
open PyProof.Rows
open Att
section
inductive TpAt(h:Heap)(v:Value)(ns:List Int):Prop
 | mk (a:Addr) (its:Array Value) (e:v=.ref a) (h1:IsTup h a its) (h2:IntsAre its.toList ns)
end
end L2
namespace DL
open PyProof.Rows L2
section
variable {e:Expr}
def tupI:D->Option (List Int)
 | .tup ds=>jiv ds
 | _=>none
inductive TupV(K:W.Frag)(H:Hp)(v:V)(t:List Int):Prop
 | mk (a:Addr) (e:v=.ref a) (h:SqT K H a (t.map V.int))
end
section
end
end DL
namespace L2
open PyProof.Rows
section
end
end L2
namespace DL
open L2
section
variable {X:Cx}{O B:List Nat}{E:XK}{b:Expr}{es:List Expr}{fb:DSt->M D}{fl:DSt->M (List D)}{pos:Pos}
theorem jyy{i:Nat}{x:Str}{pos' p2 p3:Pos}(hN:X.N.Nodup)(hl:DA X O E es fl)(hb:DE X O E b fb)(ho:autoParam (O.contains i=false) zau2._auto_1)(hi:autoParam (X.N[i]? = some x) zau2._auto_1)(hx:autoParam (Loc X.env.scope x) zau7._auto_1)
  (hs:autoParam (swapsWith (.BinOp (.List es p2) .Mult b p3) (some (.Name x pos')) pos.line X.env=pure false) zau2._auto_1)
  (hf:autoParam (qi X x) zau0._auto_1):DS X O (i::O) B E (.Assign [.Name x pos'] (.BinOp (.List es p2) .Mult b p3) pos) (gSet i (fRep fl fb)):=by
 rintro U s Z H Dn I ⟨J,Hz,F,Y,r,R,hg,k⟩;have ho':i∉O:=fun z=>by rw[zcx.mpr z] at ho;cases ho
 have hlt:i<Y.length:=by rw[<- R.len,I.len];exact (zbc.mp hi).1
 refine jok hN hi hx (jDl jDc (juo hl) hb) hs hf U s Z H Dn I ?_;have fin:∀ {ds:List D} {vs:List V} {H2:Hp} {q:Addr},Same H H2->H2 q=none->Reps J X.K (hid H2 (fob F Z O)) ds vs->r=.ok (.nx (Y.set i (some (.lst ds))))->Dn.nx (Z.set i (some (.ref q))) (upd H2 q (.lst vs)):=fun {ds vs H2 q} s1 hp r1 er=>by
  subst er;refine k _ _ ?_ (R.take ho' hlt s1 hp r1);have lZ:i<Z.length:=by rw[R.len];exact hlt
  intro b o qq;obtain⟨q1,q2⟩:=hid_some.mp qq;have q3:=s1 b o q2;have hb:b≠q:=jaz q3 hp;refine hid_some.mpr ⟨?_,by rw[jar hb];exact q3⟩
  cases z:fob F (Z.set i (some (.ref q))) (i::O) b with
  | false=>rfl
  | true =>
   rcases fob_t.mp z with z|⟨j,hj,z⟩
   ·rw[fob_t.mpr (.inl z)] at q1;cases q1
   ·rcases List.mem_cons.mp hj with rfl|hj
    ·rw[zcv lZ] at z;cases z;exact absurd rfl hb
    ·rw[zba (by rintro rfl;exact ho' hj)] at z;rw[fob_t.mpr (.inr ⟨j,hj,z⟩)] at q1;cases q1
 rcases M.b_inv hg with ⟨d,eD,hg⟩|⟨y,eD,rfl⟩
 ·cases hg;rcases M.b_inv eD with ⟨xs,e1,hf⟩|⟨x,e1,z⟩
  ·refine⟨J,Hz,F,Y,.ok xs,R,e1,fun us H1 s1 r1=>?_⟩
   split at hf
   ·rename_i hz0;refine⟨by rw[r1.length];exact hz0,fun p hp=>?_⟩;have s2:Same H1 (upd H1 p (.lst us)):=jax hp;rcases M.b_inv hf with ⟨y,e2,hf⟩|⟨y,e2,z⟩
    ·cases y with
     | int n =>
      dsimp only at hf
      split at hf
      ·rename_i hz;cases hf;refine⟨J,Hz,F,Y,.ok (.int n),R.mono (s1.trans s2),e2,fun w H2 s3 r2=>?_⟩;cases rep_int.mp r2;refine⟨p,n,us,rfl,rfl,s3 _ _ jaq,hz.1,hz.2.1,by rw[r1.length];exact hz.2.2,fun q hq=>?_⟩;exact fin (s1.trans (s2.trans s3)) hq ((r1.mono (jan (s2.trans s3))).rep n.toNat) rfl
      ·cases hf
     | _=>cases hf
    ·cases z
   ·cases hf
  ·cases z
 ·rcases M.b_inv eD with ⟨xs,e1,hf⟩|⟨x,e1,z⟩
  ·refine⟨J,Hz,F,Y,.ok xs,R,e1,fun us H1 s1 r1=>?_⟩
   split at hf
   ·rename_i hz0;refine⟨by rw[r1.length];exact hz0,fun p hp=>?_⟩;rcases M.b_inv hf with ⟨y',e2,hf⟩|⟨y',e2,z⟩
    ·cases y' with
     | int n =>
      dsimp only at hf
      split at hf<;>cases hf
     | _=>cases hf
    ·cases z;exact⟨J,Hz,F,Y,.error _,R.mono (s1.trans (jax hp)),e2,k⟩
   ·cases hf
  ·cases z;exact⟨J,Hz,F,Y,.error _,R,e1,k⟩
end
end DL
namespace L2
open PyProof.Rows
section
end
section
variable {n:Nat}{k:Nat->Int}
variable (kd:∀ i j,i<n->j<n->k i=k j->i=j)
include kd
end
open Att
section
end
open Att
inductive RwAt(h:Heap)(v:Value)(q:Int×Int):Prop
 | mk (ad:Addr) (its:Array Value) (t u:Tok) (rest:List Value) (e:v=.ref ad) (h1:IsTup h ad its) (h2:its.toList=.int q.1 t::.int q.2 u::rest)
noncomputable def rk(q:Int×Int):Int:=q.1*1000+q.2
abbrev kk(ks:List (Int×Int))(i:Nat):Int:=rk (ks.getD i (0,0))
section
end
section
variable {X:Cx}
def okK(ks:List (Int×Int)):Bool:=decide (ks.length<64)&&ks.all (fun q=>decide (0<=q.2)&&decide (q.2<1000))&&decide ((ks.map rk).Nodup)
inductive OkK(ks:List (Int×Int)):Prop
 | mk (h1:ks.length<64) (h2:∀ q∈ks,0<=q.2/\q.2<1000) (h3:∀ i j,i<ks.length->j<ks.length->kk ks i=kk ks j->i=j)
inductive RowV(K:W.Frag)(H:Hp)(v:V)(q:Int×Int):Prop
 | mk (a:Addr) (r:List V) (e:v=.ref a) (h:SqT K H a (.int q.1::.int q.2::r))
inductive rSortR(K:W.Frag)(xs:List V)(H:Hp)(Q:VK):Prop
 | mk (p:Addr) (ys:List V) (ks:List (Int×Int)) (h1:xs=[.ref p]) (h2:SqL K H p ys) (h3:ks.length=ys.length) (h4:∀ (i:Nat) v q,ys[i]? = some v->ks[i]? = some q->RowV K H v q) (h5:OkK ks)
  (h6:∀ pp:List Nat,pp.Perm (List.range ys.length)->pp.Pairwise (fun i j=>kk ks i<kk ks j)->∀ l,H l=none->Q (.ref l) (upd H l (.lst (pp.map fun i=>ys.getD i .non))))
theorem jvm:CallR X (.type "range") (fun xs H Q=>∃ j:Int,xs=[.int j]/\∀ p,H p=none->Q (.ref p) (upd H p (.rng 0 j))):=by
 intro U s Z H xs us Q I r h;obtain⟨j,rfl,q⟩:=h;obtain⟨u,rfl,rx⟩:=jp4 r;obtain⟨t,rfl⟩:=rx;exact call_range_1 ⟨.ref s.heap.objs.size,_,I.laid (o:=.rng 0 j) (t':=s.toks+1+1) (fun b o e=>zaz _ e) (zac _) ⟨_,_,_,zbv _ rfl⟩,rfl,q _ (I.hok.fresh (zac _))⟩
theorem jmj(hc:X.calm=true):CallR X (.type "list") (fun xs H Q=>∃ p,∃ j:Int,xs=[.ref p]/\H p=some (.rng 0 j)/\0<=j/\j<=1000000/\∀ l,H l=none->Q (.ref l) (upd H l (.lst ((List.range j.toNat).map fun i:Nat=>V.int (i:Int))))):=by
 intro U s Z H xs us Q I r h;obtain⟨p,j,rfl,hq,j0,j1,q⟩:=h;obtain⟨u,rfl,rx⟩:=jp4 r;cases rx;obtain⟨t,u,v,e⟩:=(show ObjOk X.prog X.w H s.heap p (.rng 0 j) from I.hok p _ hq)
 have hs:Builtin.Range.rangeSize 0 j 1=(j.toNat:Nat):=by rw[rangeSize_one];split<;>omega
 refine call_list_range (I.ok.hd hc) e (small_one (by decide) (by decide) (by omega) (by omega)) hs (by omega) fun h' tk acc c k eD ha=>?_
 refine⟨.ref s.heap.objs.size,_,I.laid (o:=.lst ((List.range j.toNat).map fun i:Nat=>V.int (i:Int))) (t':=tk) k (zac _) ⟨?_,acc.toList,c,?_,by simpa using eD⟩,rfl,q _ (I.hok.fresh (zac _))⟩
 ·rw[zav,List.length_range,show sizeLine=16777216 from sizeLine_eq];omega
 ·obtain⟨a1,a2⟩:=ha;have key:∀ (n:Nat) (vs:List Value) (k:Nat),vs.length=n->(∀ (i:Nat) w,vs[i]? = some w->∃ t,w=.int ((k+i:Nat):Int) t)->Vals ((List.range' k n).map fun i:Nat=>V.int (i:Int)) vs:=by
   intro n
   induction n with
   | zero=>intro vs k h1 _;cases List.eq_nil_of_length_eq_zero h1;exact .nil
   | succ n ih =>
    intro vs k h1 h2
    match vs,h1 with
    | w::vs,h1 =>
     rw[List.range'_succ,List.map_cons];refine .cons (h2 0 w rfl) (ih vs (k+1) (Nat.succ.inj h1) fun i w' e=>?_);obtain⟨t,ht⟩:=h2 (i+1) w' (by simpa using e);exact⟨t,by rw[ht];congr 2;omega⟩
  have:=key j.toNat acc.toList 0 (by rw[Array.length_toList];exact a1) fun i w e=>by
   obtain⟨t,ht⟩:=a2 i w (by rw[<- Array.getElem?_toList];exact e);exact⟨t,by rw[ht];congr 1;omega⟩
  rwa [<- List.range_eq_range'] at this
end
end L2
namespace DL
open PyProof.Rows L2
noncomputable def keyD:D->Option (Int×Int)
 | .tup (.int a::.int b::_)=>some (a,b)
 | _=>none
def jCj:List D->Option (List (Int×Int))
 | []=>some []
 | d::ds=>(keyD d).bind fun q=>(jCj ds).map fun qs=>q::qs
def kdD(d:D):Int:=((keyD d).map rk).getD 0
def jGu(ds:List D):List D:=ds.mergeSort fun a b=>decide (kdD a<=kdD b)
section
variable {X:Cx}{O B:List Nat}{E:XK}{a b:Expr}{pos:Pos}{fl:DSt->M (List D)}
def jwg:List D->Option D
 | [.int j]=>if 0<=j/\j<=1000000 then some (.lst (jap 0 j.toNat)) else none
 | _=>none
theorem jAi{J:Rho}{K:W.Frag}{H:Hp}(n:Nat):Reps J K H (jap 0 n) ((List.range n).map fun i:Nat=>V.int (i:Int)):=by
 have e1:jap 0 n=((List.range n).map fun i:Nat=>(i:Int)).map .int:=by
  unfold jap;rw[List.map_map];refine List.map_congr_left fun i _=>?_
  show D.int (0+(i:Int))=D.int (i:Int);rw[Int.zero_add]
 rw[e1];refine reps_ints.mpr ?_;rw[List.map_map];rfl
theorem jv1{i:Nat}{x:Str}{pos' p1 p2 p3 p4:Pos}(hN:X.N.Nodup)(hc:X.calm=true)(hGl:Gl X "list")(hml:X.mg "list"=none)(hGr:Gl X "range")(hmr:X.mg "range"=none)(hl:DA X O E [a] fl)(ho:autoParam (O.contains i=false) zau2._auto_1)(hi:autoParam (X.N[i]? = some x) zau2._auto_1)(hx:autoParam (Loc X.env.scope x) zau7._auto_1)
  (hs:autoParam (swapsWith (.Call (.Name "list" p1) [.Call (.Name "range" p2) [a] [] p3] [] p4) (some (.Name x pos')) pos.line X.env=pure false) zau2._auto_1)
  (hf:autoParam (qi X x) zau0._auto_1)
  (he1:autoParam (starEach [a] X.env=(false,eval a X.env)::starEach [] X.env) zau2._auto_1) (he2:autoParam ((backTo p3 (starEach [] X.env)).any (·.1)=false) zau2._auto_1)
  (he3:autoParam (starEach [.Call (.Name "range" p2) [a] [] p3] X.env=(false,eval (.Call (.Name "range" p2) [a] [] p3) X.env)::starEach [] X.env) zau2._auto_1) (he4:autoParam ((backTo p4 (starEach [] X.env)).any (·.1)=false) zau2._auto_1) :
  DS X O (i::O) B E (.Assign [.Name x pos'] (.Call (.Name "list" p1) [.Call (.Name "range" p2) [a] [] p3] [] p4) pos) (gSet i (fL jwg fl)):=by
 rintro U s Z H Dn I ⟨J,Hz,F,Y,r,R,hg,k⟩;have ho':i∉O:=fun z=>by rw[zcx.mpr z] at ho;cases ho
 have hlt:i<Y.length:=by rw[<- R.len,I.len];exact (zbc.mp hi).1
 refine jok hN hi hx (jgg (jmj hc) hGl hml jo6 (jgf (jgg jvm hGr hmr jvl hl (by decide) (by decide) he1 he2) jly he3) (by decide) (by decide) he3 he4) hs hf U s Z H Dn I ?_;have fin:∀ {ds:List D} {vs:List V} {H2:Hp} {q:Addr},Same H H2->H2 q=none->Reps J X.K (hid H2 (fob F Z O)) ds vs->r=.ok (.nx (Y.set i (some (.lst ds))))->Dn.nx (Z.set i (some (.ref q))) (upd H2 q (.lst vs)):=fun {ds vs H2 q} s1 hp r1 er=>by
  subst er;refine k _ _ ?_ (R.take ho' hlt s1 hp r1);have lZ:i<Z.length:=by rw[R.len];exact hlt
  intro b o qq;obtain⟨q1,q2⟩:=hid_some.mp qq;have q3:=s1 b o q2;have hb:b≠q:=jaz q3 hp;refine hid_some.mpr ⟨?_,by rw[jar hb];exact q3⟩
  cases z:fob F (Z.set i (some (.ref q))) (i::O) b with
  | false=>rfl
  | true =>
   rcases fob_t.mp z with z|⟨j,hj,z⟩
   ·rw[fob_t.mpr (.inl z)] at q1;cases q1
   ·rcases List.mem_cons.mp hj with rfl|hj
    ·rw[zcv lZ] at z;cases z;exact absurd rfl hb
    ·rw[zba (by rintro rfl;exact ho' hj)] at z;rw[fob_t.mpr (.inr ⟨j,hj,z⟩)] at q1;cases q1
 rcases M.b_inv hg with ⟨d,eD,hg⟩|⟨y,eD,rfl⟩
 ·cases hg;rcases M.b_inv eD with ⟨xs,e1,hf'⟩|⟨x,e1,z⟩
  ·refine⟨J,Hz,F,Y,.ok xs,R,e1,fun us H1 s1 r1=>?_⟩;obtain⟨d',hd,z⟩:=M.o_inv hf';cases z;unfold jwg at hd
   split at hd
   ·rename_i j
    split at hd
    ·rename_i hj;cases hd;obtain⟨v,rfl,q⟩:=ji0 r1;cases rep_int.mp q;refine⟨j,rfl,fun p hp=>?_⟩;refine⟨p,j,rfl,jaq,hj.1,hj.2,fun l hl'=>?_⟩;exact fin (s1.trans (jax hp)) hl' (jAi _) rfl
    ·cases hd
   ·cases hd
  ·cases z
 ·rcases M.b_inv eD with ⟨xs,e1,hf'⟩|⟨x,e1,z⟩
  ·obtain⟨d',hd,z⟩:=M.o_inv hf';cases z
  ·cases z;exact⟨J,Hz,F,Y,.error y,R,e1,k⟩
end
section
inductive ListSI(xs:List D)(Ω Ω':Sto)(r:Except XD D):Prop
 | mk (n:Nat) (ds:List D) (h1:xs=[.obj n]) (h2:Ω[n]? = some (.lst ds)) (h4:r=.ok (.lst ds)) (h5:Ω'=Ω)
inductive SortDI(xs:List D)(Ω Ω':Sto)(r:Except XD D):Prop
 | mk (n:Nat) (h1:xs=[.obj n]) (h2:Ω[n]? = some (.dct [])) (h4:r=.ok (.lst [])) (h5:Ω'=Ω)
end
end DL
namespace L2
open PyProof.Rows
theorem jpm(l:Addr)(items:Array Value)(n:Nat)(dct:Option Addr)(sl:qg) :
  Meets (Builtin.«enumerate.__new__» ⟨[.type "enumerate",.ref l],[]⟩) (fun _ R s=>s.heap.get? l=some ⟨.type "tuple",dct,.seq items n,sl⟩ /\
   ∀ oi,(s.heap.push oi).IsTupleIter s.heap.objs.size l 0->R (.ok (.ret (.ref (s.heap.push oi).objs.size))) { s with heap:=(s.heap.push oi).push { cls:=.type "enumerate",data:=.fields #[.none,.bool false,.ref s.heap.objs.size,rawInt 0,.none,.none] } }) :=
 .of_wp fun prog w A R s h=>by
  obtain⟨hp,g,d,tk,os⟩:=s;obtain⟨hl,h⟩:=h;have hsub:=sub_enumerate;have hT:Heap.IsTuple (Shared.heap ⟨hp,g,d,tk,os⟩) l items:=⟨_,hl,rfl,n,rfl⟩
  have h0:=h { cls:=.type "tuple_iterator",data:=.fields #[.ref l,.int 0 0] } ⟨_,zbv _ rfl,rfl,rfl⟩
  wp_walk using wpAny_loadPart' hl
  refine wpAny_stack_any fun st=>zab ?_
  split
  ·rename_i c _ _ _ _ _;cases (c == Value.type "enumerate")<;>(wp_walk using wpAny_loadPart' hl,wpAny_pyIter_tuple hT;exact⟨_,rfl,h0⟩)
  ·wp_walk using wpAny_loadPart' hl,wpAny_pyIter_tuple hT;exact⟨_,rfl,h0⟩
theorem jrp{prog:Program}{w:World}{A:Around}{E:qe}{s:Shared}{l:Addr}{items:Array Value}{Q:qe}(hL:s.heap.IsTuple l items)
  (h:∀ h',IsEnum h' (s.heap.objs.size+1) s.heap.objs.size 0 .none->h'.IsTupleIter s.heap.objs.size l 0->(∀ b o,s.heap.get? b=some o->h'.get? b=some o)->Q (.ref (s.heap.objs.size+1)) { s with heap:=h' }) :
  wpAny (model prog w) A (call (.type "enumerate") [.ref l]) Q E s:=by
 obtain⟨⟨c,dct,dt,sl⟩,hl,hc,n,hd⟩:=hL;cases hc;cases hd;refine callType_new PySem.F.called_enumerate (by decide) (PySem.F.typeCall_enumerate_1 _) (PySem.F.newCall_enumerate_1 _) (fun obj=>PySem.F.args_object_init_2 obj _) PySem.F.entry_enumerate_new (jpm l items n dct sl) ⟨hl,fun oi w1=>?_⟩;have hz:(s.heap.push oi).objs.size=s.heap.objs.size+1:=Heap.size_push ..;have ge:((s.heap.push oi).push { cls:=.type "enumerate",data:=.fields #[.none,.bool false,.ref s.heap.objs.size,rawInt 0,.none,.none] }).get? (s.heap.objs.size+1)=some { cls:=.type "enumerate",data:=.fields #[.none,.bool false,.ref s.heap.objs.size,rawInt 0,.none,.none] }:=by
  rw[<- hz];exact zbv _ rfl
 show _/\_;rw[hz];exact⟨⟨_,ge,rfl⟩,h _ ge (w1.at fun o e=>zaz _ e) fun b o e=>zaz _ (zaz _ e)⟩
theorem jns{prog:Program}{w:World}{A:Around}(hh:A.handled=none)(it l:Addr)(hne:l≠it)(items:Array Value) :
  Draws prog w A it [it,l] items.size (fun i v=>items[i]? = some v) (fun i h=>h.IsTupleIter it l i/\h.IsTuple l items) where
 live:=fun i h st=>let ⟨o,e,_⟩:=st.1;⟨o,e⟩
 frame:=fun _ _ _ st hk=>⟨st.1.at fun o e=>hk it (by simp) o e,st.2.at fun o e=>hk l (by simp) o e⟩
 item:=fun i s Q E hi st hQ=>jlv st.1 st.2 (x:=items[i]) (by simp[hi]) fun h' hit' hs'=>hQ _ h' s.toks (by simp[hi]) ⟨hit',st.2.at fun o e=>hs'.extBut l o hne e⟩ hs'
 done:=fun s Q E st hE=>jha hh st.1 st.2 (by simp) hE
def IteT(K:W.Frag)(l:Addr):It :=
  ⟨fun i H=>∃ xs x,SqV true K H l xs/\xs[i]? = some x,
   fun i H v H'=>∃ T x,H T=none/\v=.ref T/\H'=upd H T (.tup [.int i,x])/\(∀ xs,SqV true K H l xs->xs[i]? = some x),
   fun i H=>∃ xs,SqV true K H l xs/\xs.length=i⟩
theorem jse{P:Program}{w:World}{K:W.Frag}{es:List Expr}{kk:Nat}{tp:Pos}(l e it:Addr)(D:e≠it) :
  Turn P w K (.Tuple es kk tp) (IteT K l) [e,it] e (fun i h=>(∃ old,IsEnum h e it i old)/\h.IsTupleIter it l i) where
 mem:=by simp
 obj:=fun i h st b hb=>by
  obtain⟨⟨old,q1⟩,o,q2,_,q3⟩:=st;simp only[List.mem_cons,List.not_mem_nil,or_false] at hb;rcases hb with rfl|rfl
  ·exact⟨_,q1,fun v e=>nomatch e⟩
  ·exact⟨o,q2,fun v z=>by rw[q3] at z;cases z⟩
 keep:=fun i h h' st k=>by
  obtain⟨⟨old,q1⟩,q2⟩:=st;exact⟨⟨old,k e (by simp) _ q1⟩,q2.at fun o z=>k it (by simp) o z⟩
 item:=by
  intro X hP hw hK hc i U s Z H E I hf st hg;subst hP hw hK;obtain⟨⟨old,q1⟩,q2⟩:=st;obtain⟨xs,x,sx,hx⟩:=hg;obtain⟨ix,rx,cx,_⟩:=I.src sx;obtain⟨u,hu,ru⟩:=rx.get hx;have le:=jgj I sx (hf e (by simp));have li:=jgj I sx (hf it (by simp));have hlt:i<ix.toArray.size:=by rw[zby];exact (zbc.mp hu).1
  refine wpAny_pyNext_enum_itemD (jns (prog:=X.prog) (w:=X.w) (A:=X.A.in1) (I.ok.hd hc) it l li ix.toArray) q1 ⟨q2,cx⟩ hlt D (by simp only[List.mem_cons,List.not_mem_nil,or_false,not_or];exact⟨D,le.symm⟩) fun y h' tk py b1 b2 b3 b4 b5=>⟨_,rfl,?_⟩
  have ey:y=u:=by
   have:ix[i]? = some y:=by simpa using py
   rw[hu] at this;exact (zbz this).symm
  subst ey;have hfr:H s.heap.objs.size=none:=I.hok.fresh (zac _);have hno:s.heap.get? s.heap.objs.size=none:=Heap.get?_none_of_le (zac _);have Te:s.heap.objs.size≠e:=Nat.ne_of_gt (zbw q1);have Ti:s.heap.objs.size≠it:=by obtain⟨o,q,_⟩:=q2;exact Nat.ne_of_gt (zbw q)
  refine wpAny_letOwnedTupleGo_enum b1 fun h2 e2 s2=>?_
  have up2:∀ b o,b≠e->h'.get? b=some o->h2.get? b=some o:=fun b o hb z=>s2.extBut _ _ hb z
  have keep2:∀ b o,b∉[e,it]->s.heap.get? b=some o->h2.get? b=some o:=fun b o hb z=>by
   simp only[List.mem_cons,List.not_mem_nil,or_false,not_or] at hb;exact up2 b o hb.1 (b5 b o hb.1 hb.2 z)
  have tu:IsTup h2 s.heap.objs.size [.int i tk,y].toArray:=⟨_,up2 _ _ Te b3,rfl,0,rfl⟩
  have i2:h2.IsTupleIter it l (i+1):=b2.1.at fun o z=>up2 _ o D.symm z
  have I2:Inv X U Z (upd H s.heap.objs.size (.tup [.int i,x])) { s with heap:=h2,toks:=tk+1 }:=I.spun hf keep2 (fun b hb=>by
   simp only[List.mem_cons,List.not_mem_nil,or_false] at hb;rcases hb with rfl|rfl
   ·exact⟨_,e2⟩
   ·obtain⟨o,q,_⟩:=i2;exact⟨o,q⟩) hno hfr (.cons ⟨_,rfl⟩ (.cons ru .nil)) (by show 2<=sizeLine;decide) tu
  refine⟨.ref s.heap.objs.size,_,I2,rfl,⟨_,x,hfr,rfl,rfl,fun xs' h=>by rw[I.src_inj h sx];exact hx⟩,⟨⟨y,by have:=e2;simpa using this⟩,i2⟩,fun b hb=>?_⟩;have:b≠s.heap.objs.size:=fun q=>by
   subst q;simp only[List.mem_cons,List.not_mem_nil,or_false] at hb;rcases hb with q|q
   ·exact Te q
   ·exact Ti q
  rw[jar this];exact (hf b hb).1
 done:=by
  intro X hP hw hK hc i U s Z H E I hf st hg;subst hP hw hK;obtain⟨⟨old,q1⟩,q2⟩:=st;obtain⟨xs,sx,hend⟩:=hg;obtain⟨ix,rx,cx,_⟩:=I.src sx;have lx:=rx.length;have li:=jgj I sx (hf it (by simp));have ei:ix.toArray.size=i:=by rw[zby];omega
  refine wpAny_pyNext_enum_endD (jns (prog:=X.prog) (w:=X.w) (A:=X.A.in1) (I.ok.hd hc) it l li ix.toArray) q1 ⟨by rw[ei];exact q2,cx⟩ fun h' k=>⟨rfl,I.spun0 (t':=s.toks) hf fun b o hb z=>?_⟩
  simp only[List.mem_cons,List.not_mem_nil,or_false,not_or] at hb;exact k b o hb.2 z
 self:=fun _ _ _ _ _ st h=>by obtain⟨⟨old,q1⟩,_⟩:=st;exact wpAny_pyIter_enum q1 h
section
variable {X:Cx}
def jB3(K:W.Frag)(ta:TA):TI:=fun Z H R=>ta Z H fun vs H1=>∃ l xs,vs=[.ref l]/\SqV true K H1 l xs/\R (IteT K l) H1
theorem jwy{a:Expr}{ta:TA}{es:List Expr}{kk:Nat}{tp p pos:Pos}(hg:Gl X "enumerate")(hm:X.mg "enumerate"=none)(ha:PA X [a] ta)(hs:autoParam (starEach [a] X.env=[(false,eval a X.env)]) zau2._auto_1) :
  PI X (.Tuple es kk tp) (.Call (.Name "enumerate" p) [a] [] pos) (jB3 X.K ta):=by
 intro U s Z H R I h;refine Call_ (jjd I hg hm boot_enumerate (PyProof.Rows.callWith_type1 (thn (ha pos U s Z H _ I h) fun us s1 hzz=>?_) hs rfl));obtain⟨vs,H1,I1,r1,q1⟩:=hzz;obtain⟨l,xs,e,sx,q⟩:=q1;subst e;obtain⟨u,rfl,e1⟩:=r1.one;cases e1;obtain⟨ix,rx,cx,_⟩:=I1.src sx;refine jrp cx fun h' b1 b2 b4=>wpAny_pyIter_enum b1 ?_
 refine⟨s1.heap.objs.size+1,[s1.heap.objs.size+1,s1.heap.objs.size],_,_,H1,rfl,I1.kept (t':=s1.toks) fun c o e=>b4 c o e,jse l _ _ (show (s1.heap.objs.size+1:Nat)≠s1.heap.objs.size by omega),⟨⟨_,b1⟩,b2⟩,fun b hb=>?_,q⟩;have hb':s1.heap.objs.size<=b:=by
  simp only[List.mem_cons,List.not_mem_nil,or_false] at hb;rcases hb with q|q<;>(rw[q];first|exact zac _|exact Nat.le_add_right _ _)
 exact I1.fpOk hb' (I1.hok.fresh hb')
end
end L2
namespace DL
open L2
def jh6:List D->Option (List D)
 | [.tup xs]=>some (jdk 0 xs)
 | _=>none
theorem jzb{J:Rho}{K:W.Frag}{ds:List D}{Hv:Hp}{l:Addr}{xs:List V}(h:SqV true K Hv l xs)(hr:Reps J K Hv ds xs):ItD J K (IteT K l) (jdk 0 ds) Hv:=by
 intro H' G' i f hG;have h':SqV true K H' l xs:=jl3 (f.trans jao) h;refine⟨fun hi=>?_,fun hi=>⟨xs,h',by rw[hr.length,hi,jf8]⟩⟩;obtain⟨d,q1,q2⟩:=jh7 (zax hi);obtain⟨v,hv,rv⟩:=hr.get q1;refine⟨⟨xs,v,h',hv⟩,fun x H2 y=>?_⟩;obtain⟨T,x1,hT,rfl,rfl,y1⟩:=y;have e1:=y1 xs h';rw[hv] at e1;cases e1
 refine⟨jax hT,_,zax hi,?_⟩;rw[q2,Int.zero_add];exact jb4 hT (hG T hT) (Reps.cons (rep_int.mpr rfl) (Reps.cons (rv.mono f) Reps.nil))
section
variable {X:Cx}{O:List Nat}{E:XK}{a:Expr}{fl:DSt->M (List D)}{p pos:Pos}
theorem jv0{ts:List Expr}{kk:Nat}{tp:Pos}(hg:Gl X "enumerate")(hm:X.mg "enumerate"=none)(ha:DA X O E [a] fl)(hs:autoParam (starEach [a] X.env=[(false,eval a X.env)]) zau2._auto_1) :
  DI X O E (.Tuple ts kk tp) (.Call (.Name "enumerate" p) [a] [] pos) (jca jh6 fl):=by
 rintro U s Z H R I ⟨J,Hz,F,Y,r,RS0,hf,k⟩;refine jwy hg hm ha hs U s Z H R I ?_;rcases M.b_inv hf with ⟨d,e1,hf⟩|⟨y,e1,rfl⟩
 ·refine⟨J,Hz,F,Y,.ok d,RS0,e1,fun vs H1 s1 r1=>?_⟩;obtain⟨ds,hd,rfl⟩:=M.o_inv hf;unfold jh6 at hd
  split at hd
  ·rename_i xs;cases hd;obtain⟨v,rfl,q1⟩:=ji0 r1;obtain⟨l,us,rfl,z1,z2⟩:=rep_tup.mp q1;exact⟨l,us,rfl,jdl jao z1,k _ H1 s1 (jzb z1 z2)⟩
  ·cases hd
 ·exact⟨J,Hz,F,Y,.error y,RS0,e1,k⟩
end
end DL
namespace L2
open PyProof.Rows
open Att
inductive RawD(h:Heap)(d:Addr)(es:Array DictEntry)(ep:Nat):Prop
 | mk (o:Obj) (g:h.get? d=some o) (x:o.ExactDict) (y:o.data=.dict es ep)
section
variable {prog:Program}{w:World}{A:Around}{E:qe}{s:Shared}{d it:Addr}{es:Array DictEntry}{ep i:Nat}{m:qc}
theorem RawD.type(r:RawD s.heap d es ep):s.TypeIs (.ref d) "dict":=let ⟨o,g,x,_⟩:=r;⟨o,g,x.1⟩
theorem RawD.lt{h:Heap}(r:RawD h d es ep):d<h.objs.size:=let ⟨_,g,_,_⟩:=r;zbw g
theorem RawD.at{h h':Heap}(r:RawD h d es ep)(k:∀ o,h.get? d=some o->h'.get? d=some o):RawD h' d es ep:=let ⟨o,g,x,y⟩:=r;⟨o,k o g,x,y⟩
theorem jw6{Q:qe}(hs:(d == sysModules)=false)(r:RawD s.heap d es ep)
  (hQ:Q (.ref s.heap.objs.size) { s with heap:=s.heap.push { cls:=.type "dict_keyiterator",data:=.fields #[.ref d,.int 0 0,.int es.size 0,.int ep 0] } }):wpAny (model prog w) A (pyIter (.ref d)) Q E s:=by
 have ty:=r.type;obtain⟨o,g,x,y⟩:=r;refine wpAny_pyIter_slot ty PySem.F.slot_dict_iter (wpAny_call_entry PySem.F.slot_dict_iter ty PySem.F.entry_dict_iter ?_ (PySem.F.args_dict_iter_1 _));unfold Builtin.«dict.__iter__»;refine zay ?_;unfold Builtin.Dict.dictSlotNone;refine zay (wpAny_notOrdered_dict ty (show wpAny _ _ (pure (Value.ref d)) _ _ s from zab ?_));show wpAny _ _ (Builtin.Dict.showsAll d >>= _) _ _ s;unfold Builtin.Dict.showsAll;rw[if_neg (by rw[hs];exact Bool.false_ne_true)];refine zay (zab (zay (wpAny_dictEntries g y (zay (wpAny_dictEpoch g y ?_)))));refine zay (wpAny_newObj_type (zab ⟨_,rfl,"dict_keyiterator",_,⟨_,zbv _ rfl,rfl⟩,PySem.F.slot_dict_keyiterator_next.lookup,?_⟩));simpa[rawInt] using hQ
theorem jw5{Q:Option Value->Shared->Prop}{R:qe}(r:RawD s.heap d es ep)(hit:s.heap.IsKeyIter it d i es.size ep)(hi:i<es.size)
  (hQ:∀ h',h'.IsKeyIter it d (i+1) es.size ep->Heap.SameBut it s.heap h'->Q (some es[i].key) { s with heap:=h' }):wpAny (model prog w) A (pyNext (.ref it)) Q E s:=by
 have ti:=hit.typeIs;obtain⟨o,ho,hc,hd⟩:=id hit;obtain⟨od,g,x,y⟩:=r;unfold pyNext;refine zay (wpAny_attempt (wpAny_callSpecial?_slot (name:=Str.ofString "__next__") ti PySem.F.slot_dict_keyiterator_next (wpAny_call_entry PySem.F.slot_dict_keyiterator_next ti PySem.F.entry_dict_keyiterator_next ?_ (PySem.F.args_dict_keyiterator_next_1 _))));refine zay (zab (zay (zay ?_)))
 first|refine zay (wpAny_typeNameOfWhole_keyiter ti (zab (zay (wpAny_fieldsOf ho hd ?_))))|refine zay (wpAny_typeNameOf_keyiter ti (zab (zay (wpAny_fieldsOf ho hd ?_))))
 simp only[show Builtin.Dict_items.ownsTuple "dict_keyiterator"=false by decide,Bool.false_eq_true,if_false];show wpAny _ _ (if (Value.ref d == Value.none)=true then _ else _) _ _ s;rw[if_neg (show ¬ ((Value.ref d == Value.none)=true) from Bool.false_ne_true)];refine zay (zab (zay (wpAny_dictEntries g y ?_)));rw[if_neg (by simp)];refine zay (zab (zay (wpAny_dictEpoch g y ?_)));rw[if_neg (by simp)];refine zab ?_;simp only[show ¬ ((i:Int)<0) from by omega,if_false,Int.toNat_natCast,Array.getElem?_eq_getElem hi];refine zay ?_
 first|refine zay (wpAny_typeNameOfWhole_keyiter ti (zab (zay (wpAny_isOneOf_keyiter ti ?_))))|refine zay (wpAny_typeNameOf_keyiter ti (zab (zay (wpAny_isOneOf_keyiter ti ?_))))
 show wpAny _ _ (setField (.ref it) 1 (rawInt ((i:Int)+1)) >>= _) _ _ s;refine zay (wpAny_setField ho hd (by simp) ?_);have hit':(s.heap.update it (Obj.mapFields (·.setIfInBounds 1 (rawInt ((i:Int)+1))))).IsKeyIter it d (i+1) es.size ep:=by
  refine⟨_,Heap.get?_update_self _ ho (Obj.isFreed_of_fields (Obj.data_mapFields hd _)),(Obj.cls_mapFields ..).trans hc,?_⟩;rw[Obj.data_mapFields hd];simp[rawInt]
 refine zay (wpAny_holding (zay (wpAny_isOneOf_keyiter (s:={ s with heap:=s.heap.update it (Obj.mapFields (·.setIfInBounds 1 (rawInt ((i:Int)+1)))) }) hit'.typeIs ?_)));show wpAny _ _ (pure es[i].key) _ _ _;exact zab (zab ⟨_,rfl,zab (hQ _ hit' (Heap.SameBut.update ..))⟩)
theorem jAg{Q:Option Value->Shared->Prop}(hh:A.handled=none)(r:RawD s.heap d es ep)(hit:s.heap.IsKeyIter it d es.size es.size ep)(hQ:∀ h',Heap.ExtBut it s.heap h'->Q none { s with heap:=h' }):wpAny (model prog w) A (pyNext (.ref it)) Q E s:=by
 have ti:=hit.typeIs;obtain⟨o,ho,hc,hd⟩:=id hit;obtain⟨od,g,x,y⟩:=r;unfold pyNext;refine zay (wpAny_attempt (wpAny_callSpecial?_slot (name:=Str.ofString "__next__") ti PySem.F.slot_dict_keyiterator_next (wpAny_call_entry PySem.F.slot_dict_keyiterator_next ti PySem.F.entry_dict_keyiterator_next ?_ (PySem.F.args_dict_keyiterator_next_1 _))));refine zay (zab (zay (zay ?_)))
 first|refine zay (wpAny_typeNameOfWhole_keyiter ti (zab (zay (wpAny_fieldsOf ho hd ?_))))|refine zay (wpAny_typeNameOf_keyiter ti (zab (zay (wpAny_fieldsOf ho hd ?_))))
 simp only[show Builtin.Dict_items.ownsTuple "dict_keyiterator"=false by decide,Bool.false_eq_true,if_false];show wpAny _ _ (if (Value.ref d == Value.none)=true then _ else _) _ _ s;rw[if_neg (show ¬ ((Value.ref d == Value.none)=true) from Bool.false_ne_true)];refine zay (zab (zay (wpAny_dictEntries g y ?_)));rw[if_neg (by simp)];refine zay (zab (zay (wpAny_dictEpoch g y ?_)));rw[if_neg (by simp)];refine zab ?_;simp only[show ¬ (((es.size:Nat):Int)<0) from by omega,if_false,Int.toNat_natCast,Array.getElem?_eq_none (zac es.size)];refine zay ?_
 first|refine zay (wpAny_typeNameOfWhole_keyiter ti (zab ?_))|refine zay (wpAny_typeNameOf_keyiter ti (zab ?_))
 show wpAny _ _ (setField (.ref it) 0 .none >>= _) _ _ s;refine zay (wpAny_setField ho hd (by simp) ?_);show wpAny _ _ (newExc (.type "StopIteration") [] >>= _) _ _ _;refine zay ?_;simp only[newExc,newTuple];refine zay (wpAny_newObj_type (zay (m:=firstArgMember _ _) (wpAny_of_eq (a:=Value.none) (by first|rfl|(simp only[firstArgMember];rfl)) (wpAny_newObj_type ?_ (by size_fits)))) (by size_fits));simp only[raiseNew];refine zay (wpAny_handled ?_);rw[show A.in1.handled=none from hh];refine zay (zab (wpAny_throw ?_));exact zay (wpAny_isInstance (T:="StopIteration") (b:=true) ⟨_,zbv _ rfl,rfl⟩ isSubtype_stop (zab (hQ _ (((Heap.SameBut.update ..).extBut.push _).push _))))
abbrev jA3(es:Array DictEntry)(i:Nat)(v:Value):Prop:=∃ e,es[i]? = some e/\v=e.key
theorem juy(hh:A.handled=none)(I d:Addr)(hne:d≠I):Walks prog w A I [I,d] [I] es.size (jA3 es) (fun i h=>h.IsKeyIter I d i es.size ep/\RawD h d es ep) where
 sub:=fun b hb=>by simp at hb;simp[hb]
 frame:=fun _ _ _ st hk=>⟨st.1.at fun o e=>hk I (by simp) o e,st.2.at fun o e=>hk d (by simp) o e⟩
 item:=fun i s Q E hi st hQ=>jw5 (R:=fun _ _=>True) st.2 st.1 hi fun h' hit' hs'=>hQ _ h' s.toks ⟨es[i],by simp[hi],rfl⟩ ⟨hit',st.2.at fun o e=>hs'.extBut d o hne e⟩ fun b o hb e=>hs'.extBut b o (fun h=>hb (by simp[h])) e
 done:=fun s Q E st hQ=>jAg hh st.2 st.1 fun h' he'=>hQ h' s.toks fun b o hb e=>he' b o (fun h=>hb (by simp[h])) e
 self:=fun _ _ _ _ st hQ=>wpAny_pyIter_keyiter st.1 hQ
theorem jze(lo:(d == sysModules)=false):W.KdlSrc prog w "dict" d d es.size (jA3 es) (fun h=>RawD h d es ep) where
 type:=fun _ r=>r.type
 there:=fun _ r=>⟨r.lt,r.lt⟩
 keep:=fun _ _ r hk=>r.at fun o e=>hk d (.inl rfl) o e
 notList:=by decide
 notTuple:=by decide
 hint:=fun _ _ _ _ r hq=>W.kdl_hint_dict r.type hq
 iter:=fun _ _ hh r=>⟨_,_,(fun _ _ hq=>jw6 lo r hq),juy hh _ d (zcb r.lt),⟨⟨_,zbv _ rfl,rfl,rfl⟩,r.at fun o e=>zaz _ e⟩⟩
end
noncomputable abbrev ofK(q:Int×Int):List Key:=[Sum.inl q.1,Sum.inl q.2]
inductive rSortD(xs:List V)(H:Hp)(Q:VK):Prop
 | mk (p:Addr) (kvs:List (List Key×V)) (ks:List (Int×Int)) (h1:xs=[.ref p]) (h2:H p=some (.dT kvs)) (h3:kvs.map (·.1)=ks.map ofK) (h4:OkK ks)
  (h5:∀ ads:List Addr,ads.length=ks.length->(∀ (i:Nat) ad q,ads[i]? = some ad->ks[i]? = some q->H ad=some (.tup [.int q.1,.int q.2]))->∀ pp:List Nat,pp.Perm (List.range ks.length)->pp.Pairwise (fun i j=>kk ks i<kk ks j)->∀ l,H l=none->Q (.ref l) (upd H l (.lst (pp.map fun i=>(ads.map V.ref).getD i .non))))
theorem jow{P:Program}{w:World}:∀ zs:List (List Key×Addr×Value),Vals (zs.map (V.ref ∘ fun z=>z.2.1)) (zs.map ((fun e:DictEntry=>e.key) ∘ entryOfKey (tupleKind (jcw P w))))
 | []=>.nil
 | _::zs=>.cons rfl (jow zs)
inductive DAt(K:W.Frag)(H:Hp)(x y:V)(a:Addr)(kvs:List (List Key×V))(k:List Key):Prop
 | mk (b:Addr) (h1:x=.ref a) (h2:y=.ref b) (h3:H a=some (.dT kvs)) (h4:SqT K H b (k.map kV))
section
variable {X:Cx}{U:qd}{Z:St}{H:Hp}{s:Shared}{b:Addr}{k:List Key}
theorem jzg(I:Inv X U Z H s)(e:SqT X.K H b (k.map kV)):(tupleKind (jcw X.prog X.w)).is s.heap k b:=by
 obtain⟨its,r,⟨o,h1,h2,n,h3⟩,_⟩:=I.tuple e;exact⟨o,its.toArray,n,h1,h2,h3,by simpa using jkl r⟩
end
def jEl(K:W.Frag)(td ty:TE):TE:=fun Z H Q=>td Z H fun x H1=>ty Z H1 fun y H2=>∃ a kvs k v,DAt K H2 x y a kvs k/\valV kvs k=some v/\Q v H2
section
variable {X:Cx}{o i:Expr}{pos:Pos}{td ty:TE}
theorem jwu(hu:X.A.units+1<cLine)(ho:PE X o td)(hi:PE X i ty)(hs:NoSl i):PE X (.Subscript o i pos) (jEl X.K td ty):=by
 intro U s Z H Q I h;refine jAt PySem.F.slot_dict_getitem.lookup hs (thn (ho U s Z H _ I h) fun u s1 ⟨x,H1,I1,rx,q1⟩=>thn (hi U s1 Z H1 _ I1 q1) fun iv s2 ⟨y,H2,I2,ry,a,kvs,k,v,⟨b,ex,ey,ea,eb⟩,l,q2⟩=>?_);subst ex ey;cases rx;cases ry;obtain⟨z,hd,xs,rel,dd⟩:=jBm I2.hok ea;refine⟨dd.typeIs,?_⟩;obtain⟨w',hw,rw'⟩:=RelO.some_of (v:=v) (o:=(atKey xs k).map (·.2)) (by rw[<- l];exact rel.val k);obtain⟨p,hp,hp2⟩:=Option.map_eq_some_iff.mp hw;refine wpAny_getItem_heap (tupleKind_room_in1 hu) (jzg I2 eb) dd hp ?_;rw[hp2];exact⟨v,H2,I2.tok _,rw',q2⟩
end
end L2
namespace DL
open L2
noncomputable def res1(Ω:Sto):D->Option D
 | .obj i=>match Ω[i]? with
  | some (.lst ds)=>some (.lst ds)
  | _=>none
 | d=>some d
def resL(Ω:Sto):List D->Option (List D)
 | []=>some []
 | d::ds=>(res1 Ω d).bind fun x=>(resL Ω ds).map fun xs=>x::xs
def resD(Ω:Sto):D->Option D
 | .lst ds=>(resL Ω ds).map .lst
 | d=>res1 Ω d
section
end
inductive NeSI(x y:D)(Ω Ω':Sto)(r:Except XD D):Prop
 | mk (x' y':D) (h1:resD Ω x=some x') (h2:resD Ω y=some y') (h3:(okD x'&&okD y'&&decide (depD x'<=20))=true) (h4:r=.ok (.bl !(eqB x' y'))) (h5:Ω'=Ω)
section
end
inductive AtSI(g:List (List Int×D)->List Int->Option (D×List (List Int×D)))(x y:D)(Ω Ω':Sto)(r:Except XD D):Prop
 | mk (n:Nat) (i j:Int) (kvs kvs':List (List Int×D)) (d:D) (h1:x=.obj n) (h2:y=.tup [.int i,.int j]) (h3:Ω[n]? = some (.dct kvs)) (h4:g kvs [i,j]=some (d,kvs')) (h5:r=.ok d) (h6:Ω'=Ω.set n (.dct kvs'))
def gIxD(kvs:List (List Int×D))(k:List Int):Option (D×List (List Int×D)):=(jpl kvs k).map fun d=>(d,kvs)
section
variable {Jz J:Rho}{Sz S F:qf}{Hz H:Hp}{K:W.Frag}{mg:qc}{O:List Nat}{Z:St}{Y:DSt}{Ω:Sto}
inductive DctAt(J:Rho)(S:qf)(K:W.Frag)(H Hv:Hp)(n:Nat)(kvs:List (List Int×D))(u:V):Prop
 | mk (a:Addr) (vk:List (List Key×V)) (h1:u=.ref a) (h2:J n=some a) (h3:S a=true) (h4:H a=some (.dT vk)) (h5:vk.map (·.1)=kvs.map (fun p=>p.1.map Sum.inl)) (h6:Reps J K Hv (kvs.map (·.2)) (vk.map (·.2)))
theorem RM.dct(R:RM Jz Sz Hz F K mg O J S H Z Y Ω){n:Nat}{kvs:List (List Int×D)}{u:V}(hi:Ω[n]? = some (.dct kvs))(r:Rep J K (hid H (fob (un F S) Z O)) (.obj n) u):DctAt J S K H (hid H (fob (un F S) Z O)) n kvs u:=by
 obtain⟨ad,q1,q2⟩:=rep_obj.mp r;obtain⟨ad',p1,p2,vk,p3,p4,p5⟩:=R.sto.ats n _ hi;rw[q1] at p1;cases p1
 exact⟨ad,vk,q2,q1,p2,p3,p4,p5⟩
inductive PairAt(K:W.Frag)(H:Hp)(i j:Int)(u:V):Prop
 | mk (b:Addr) (h1:u=.ref b) (h2:SqT K H b [.int i,.int j])
end
section
noncomputable def keyT(p:List Int×D):D:=.tup (p.1.map .int)
inductive SortI2(xs:List D)(Ω Ω':Sto)(r:Except XD (List D)):Prop
 | mk (n:Nat) (kvs:List (List Int×D)) (ks:List (Int×Int)) (h1:xs=[.obj n]) (h2:Ω[n]? = some (.dct kvs)) (h3:jCj (kvs.map keyT)=some ks) (h4:okK ks=true) (h5:kvs.map (·.1)=ks.map fun q=>[q.1,q.2]) (h6:r=.ok (jGu (kvs.map keyT))) (h7:Ω'=Ω)
end
end DL
namespace L2
open PyProof.Rows
def rIns:V->List V->Hp->VK->Prop:=fun x vs H Q=>∃ l xs y,x=.ref l/\vs=[.int 0,y]/\H l=some (.lst xs)/\xs.length<sizeLine/\Q .non (upd H l (.lst (y::xs)))
theorem jt9{X:Cx}:MtM X "list.insert" rIns:=by
 intro U s Z H x vs v us Q I rx rv h;obtain⟨l,xs,y,rfl,rfl,hH,hz,q⟩:=h;cases rx
 cases rv with
 | cons r1 rv =>
  cases rv with
  | @cons _ u _ _ r2 rv =>
   cases rv;obtain⟨t,rfl⟩:=r1;obtain⟨z,its,n,r,hl,e⟩:=I.lstM hH;refine call_meets F.slot_list_insert ⟨_,e,rfl⟩ F.entry_list_insert (F.args_list_insert_3 _ _ _) (PySem.AutoSeq1.list_insert_list_int_val_1 l its.toArray n 0 t u (by decide) (by rw[zby];omega)) ⟨e,?_⟩;refine⟨.non,_,I.lset (its':=u::its) hH e ?_ (.cons r2 r) (by rw[List.length_cons];omega),rfl,q⟩;simp
theorem jAp(lo hi st:Int):0<=Builtin.Range.rangeSize lo hi st:=by
 by_cases h:0<st
 ·exact jAq lo hi st h
 ·unfold Builtin.Range.rangeSize;rw[if_neg h]
  split
  ·have:=Int.ediv_nonneg (a:=lo-hi-1) (b:=-st) (by omega) (by omega);omega
  ·omega
section
variable {X:Cx}{tg:Expr}
theorem jw4{U:qd}{Z:St}{H:Hp}{s:Shared}{R:It->Hp->Prop}{E:qe}{lo hi st:Int}{t u v:Tok}{tk:Nat}(I:Inv X U Z H s)(hst:st≠0)
  (q:R (Itv (fun i=>.int (lo+(i:Nat)*st)) (Builtin.Range.rangeSize lo hi st).toNat) H):wpAny (model X.prog X.w) X.A (pyIter (.ref s.heap.objs.size)) (PIE X U Z tg R) E { s with heap:=s.heap.push { cls:=.type "range",data:=.fields #[.int lo t,.int hi u,.int st v] },toks:=tk }:=by
 have I1:Inv X U Z H { s with heap:=s.heap.push { cls:=.type "range",data:=.fields #[.int lo t,.int hi u,.int st v] },toks:=tk }:=I.kept fun b o e=>zaz _ e
 have hn:0<=Builtin.Range.rangeSize lo hi st:=jAp lo hi st;generalize hN:(Builtin.Range.rangeSize lo hi st).toNat=N at q;have hN':Builtin.Range.rangeSize lo hi st=(N:Int):=by omega
 have fpk:∀ b∈[(s.heap.push { cls:=.type "range",data:=.fields #[.int lo t,.int hi u,.int st v] }).objs.size],FpOk X U H b:=fun b hb=>by
  have e:b=(s.heap.push { cls:=.type "range",data:=.fields #[.int lo t,.int hi u,.int st v] }).objs.size:=by simpa using hb
  subst e;exact I1.fpOk (zac _) (I1.hok.fresh (zac _))
 have e1:lo+((0:Nat):Int)*st=lo:=by simp
 have e2:Builtin.Range.rangeSize lo hi st-((0:Nat):Int)=Builtin.Range.rangeSize lo hi st:=by simp
 by_cases hsm:Builtin.Range.small lo hi st=true
 ·refine wpAny_pyIter_range (IsRange.new ..) hsm ?_;refine⟨_,[_],_,_,H,rfl,I1.kept (t':=tk) fun b o e=>zaz _ e,jip _ _ N _ (fun A hA=>Walks.range hA _ lo st N) (fun i h e=>⟨_,_,_,e,rfl,rfl,rfl⟩) (fun A i s Q E e h=>wpAny_pyIter_rangeiter e h),?_,fpk,q⟩;show IsRangeIter _ _ (lo+((0:Nat):Int)*st) ((N:Int)-((0:Nat):Int)) st;rw[<- hN',e1,e2];exact zbv _ rfl
 ·refine wpAny_pyIter_longrange (IsRange.new ..) (by simpa using hsm) ?_;refine⟨_,[_],_,_,H,rfl,I1.kept (t':=tk) fun b o e=>zaz _ e,jip _ _ N _ (fun A hA=>Walks.longrange hA _ lo st N) (fun i h e=>⟨_,_,_,e,rfl,rfl,rfl⟩) (fun A i s Q E e h=>wpAny_pyIter_longiter e h),?_,fpk,q⟩;show IsLongIter _ _ (lo+((0:Nat):Int)*st) ((N:Int)-((0:Nat):Int)) st;rw[<- hN',e1,e2];exact zbv _ rfl
def iRgN(ta:TA):TI:=fun Z H R=>ta Z H fun vs H1=>∃ i j k:Int,vs=[.int i,.int j,.int k]/\(k≠0/\-(2 ^ 60)<k/\k<2 ^ 60)/\R (Itv (fun n=>.int (i+(n:Nat)*k)) (Builtin.Range.rangeSize i j k).toNat) H1
theorem jup{a:Expr}{es:List Expr}{ta:TA}{p pos:Pos}(hg:Gl X "range")(hm:X.mg "range"=none)(ha:PA X (a::es) ta)(hs:autoParam (starEach (a::es) X.env=(false,eval a X.env)::starEach es X.env) zau2._auto_1)(hp:autoParam ((backTo pos (starEach es X.env)).any (·.1)=false) zau2._auto_1) :
  PI X tg (.Call (.Name "range" p) (a::es) [] pos) (iRgN ta):=by
 intro U s Z H R I h;refine Call_ (jjd I hg hm boot_range (PyProof.Rows.callWith_type1 (thn (ha pos U s Z H _ I h) fun us s1 hzz=>?_) hs hp));obtain⟨vs,H1,I1,r1,q1⟩:=hzz;obtain⟨i,j,k,e,hk,q⟩:=q1;subst e
 cases r1 with
 | cons p1 r1 =>
  cases r1 with
  | cons p2 r1 =>
   cases r1 with
   | cons p3 r1 =>
    cases r1;obtain⟨t1,rfl⟩:=p1;obtain⟨t2,rfl⟩:=p2;obtain⟨t3,rfl⟩:=p3;refine call_range_3 hk.1 (jw4 I1 hk.1 q) (.inl (PyProof.noPylong_of_log2 ?_));have hn:k.natAbs≠0:=by omega
    have:k.natAbs<2 ^ 60:=by omega
    exact Nat.lt_trans ((Nat.log2_lt (k:=60) hn).mpr this) (by decide)
end
end L2
namespace DL
open L2
mutual
noncomputable def jrt:D->Bool
 | .tup ds=>freeL ds
 | .lst _=>false
 | _=>true
noncomputable def freeL:List D->Bool
 | []=>true
 | d::ds=>jrt d&&freeL ds
end
def Ny(H:Hp)(G G':qf):Prop:=∀ b,G' b=true->G b=true\/(∀ xs,¬ Rd H b (.tup xs))
mutual
theorem jqq{J:Rho}{K:W.Frag}{H:Hp}{G G':qf}(n:Ny H G G'):∀ {d:D} {v:V},jrt d=true->Rep J K (hid H G) d v->Rep J K (hid H G') d v
 | .non,_,_,h=>by unfold Rep at h |-;exact h
 | .bl _,_,_,h=>by unfold Rep at h |-;exact h
 | .int _,_,_,h=>by unfold Rep at h |-;exact h
 | .str _,_,_,h=>by unfold Rep at h |-;exact h
 | .ty _,_,_,h=>by unfold Rep at h |-;exact h
 | .obj _,_,_,h=>by unfold Rep at h |-;exact h
 | .lst _,_,f,_=>by unfold jrt at f;cases f
 | .tup ds,_,f,h=>by
  unfold jrt at f;unfold Rep at h |-
  obtain⟨a,xs,q1,q2,q3⟩:=h;refine⟨a,xs,q1,q2.imp (fun z=>?_) id,free_reps n f q3⟩;have hv:∀ o,hid H G a=some o->hid H G' a=some o:=fun o q=>by
   obtain⟨g1,g2⟩:=hid_some.mp q;refine hid_some.mpr ⟨?_,g2⟩
   cases e:G' a with
   | false=>rfl
   | true =>
    rcases n a e with w|w
    ·rw[g1] at w;cases w
    ·exfalso;rcases z with z|⟨o',z⟩
     ·exact w xs (.inl (hid_some.mp z).2)
     ·exact w xs (.inr ⟨o',(hid_some.mp z).2⟩)
  rcases z with z|⟨o,z⟩
  ·exact .inl (hv _ z)
  ·exact .inr ⟨o,hv _ z⟩
theorem free_reps{J:Rho}{K:W.Frag}{H:Hp}{G G':qf}(n:Ny H G G'):∀ {ds:List D} {vs:List V},freeL ds=true->Reps J K (hid H G) ds vs->Reps J K (hid H G') ds vs
 | [],_,_,h=>by unfold Reps at h |-;exact h
 | d::ds,_,f,h=>by
  unfold freeL at f;rw[Bool.and_eq_true] at f;unfold Reps at h |-
  obtain⟨v,vs,q1,q2,q3⟩:=h;exact⟨v,vs,q1,jqq n f.1 q2,free_reps n f.2 q3⟩
end
theorem jD5{H:Hp}{b:Addr}{xs ys:List V}(h:H b=some (.lst xs)):¬ Rd H b (.tup ys):=by
 rintro (z|⟨o,z⟩)<;>(rw[h] at z;cases z)
def jv9(f:DSt->M D):DSt->M D:=fun Y=>(f Y).b fun d=>if jrt d=true then M.p d else none
section
variable {X:Cx}{O O' B:List Nat}{E:XK}{e:Expr}{es:List Expr}{pos:Pos}{fa:DSt->M D}{fl:DSt->M (List D)}
theorem jvy(hO:∀ i∈O',i∈O)(h:DE X O' E e fa):DE X O E e (jv9 fa):=by
 rintro U s Z H Q I ⟨J,Hz,F,Y,r,R,hf,k⟩;rcases M.b_inv hf with ⟨x,e1,hf⟩|⟨x,e1,rfl⟩
 ·refine h U s Z H Q I ⟨J,Hz,F,Y,.ok x,R.thaw hO,e1,fun v H' s' rv=>?_⟩
  split at hf
  ·rename_i hs;cases hf;refine k v H' s' (jqq (fun b hb=>?_) hs rv);rcases fob_t.mp hb with z|⟨i,hi,z⟩
   ·exact .inl (fob_t.mpr (.inl z))
   ·obtain⟨a,xs,ds,q1,q2,q3,_⟩:=R.own i hi;rw[z] at q2;cases q2
    exact .inr fun ys=>jD5 (s' _ _ q3)
  ·cases hf
 ·exact h U s Z H Q I ⟨J,Hz,F,Y,.error x,R.thaw hO,e1,k⟩
def gIns(i:Nat)(f:DSt->M D):DSt->M Out:=fun Y=>(f Y).b fun d=>match (Y[i]?).join with
 | some (.lst ds)=>if ds.length<sizeLine then M.p (.nx (Y.set i (some (.lst (d::ds))))) else none
 | _=>none
theorem jBj{i:Nat}{x:Str}{p1 p2 p3 p4:Pos}{j:Nat}(ho:O.contains i=true)(he:DE X O E e fa)(hi:autoParam (X.N[i]? = some x) zau2._auto_1)(hv:autoParam (Vis X.env.scope x) zau4._auto_1)
  (hd:autoParam (qj x) zau1._auto_1) (hcd:autoParam ((x == ("__classdict__":Str))=false) zau1._auto_1) (hbase:autoParam (attributeBase (.Name x p1) "insert" X.env (eval (.Name x p1) X.env)=eval (.Name x p1) X.env) zau2._auto_1)
  (hfew:((backTo p3 (starEach [.Constant (.int 0) j p4,e] X.env)).all (fun x=>!x.1)&&(backToKw p3 (keywordEach [] X.env)).all (fun x=>x.1.isSome)
   && decide ([.Constant (.int 0) j p4,e].length+([]:List Keyword).length+(if ([]:List Keyword).isEmpty then 0 else 1)<30))=true:=by rfl)
  (hline:autoParam ((p2.endLine == p3.line)=true) zau2._auto_1) (hs:autoParam (starEach [e] X.env=[(false,eval e X.env)]) zau2._auto_1) (hs2:autoParam (starEach [.Constant (.int 0) j p4,e] X.env=(false,eval (.Constant (.int 0) j p4) X.env)::starEach [e] X.env) zau2._auto_1)
  (hpl:autoParam ((backTo p3 (starEach [e] X.env)).any (·.1)=false) zau2._auto_1) (hsw:autoParam (swapsWith (.Call (.Attribute (.Name x p1) "insert" p2) [.Constant (.int 0) j p4,e] [] p3) none pos.line X.env=pure false) zau2._auto_1) :
  DS X O O B E (.Expr (.Call (.Attribute (.Name x p1) "insert" p2) [.Constant (.int 0) j p4,e] [] p3) pos) (gIns i fa):=by
 rintro U s Z H Dn I ⟨J,Hz,F,Y,r,R,hg,k⟩;have ho':i∈O:=zcx.mp ho;obtain⟨l,xs0,ds0,q1,q2,q3,q4,q5⟩:=R.own i ho';refine jm2 (jz2 PySem.F.plainAttrs_list PySem.F.slot_list_insert PySem.F.type_list_insert jt9 (jlz hi hv hd hcd) (jgf jyb (jgf he jly hs) hs2) hbase hfew hline hs2 hpl) hsw U s Z H Dn I ?_;refine⟨.ref l,q2,.inl ⟨rfl,_,SqL.of q3⟩,?_⟩;rcases M.b_inv hg with ⟨d,e1,hg⟩|⟨y,e1,rfl⟩
 ·refine⟨J,Hz,F,Y,.ok d,R,e1,fun v H1 s1 r1=>?_⟩;have hj:(Y[i]?).join=some (.lst ds0):=by rw[q1];rfl
  rw[hj] at hg;dsimp only at hg
  split at hg
  ·rename_i hz;cases hg;have R1:=R.mono s1;obtain⟨l',xs,ds,p1,p2,p3,p4,p5⟩:=R1.own i ho';rw[q2] at p2;cases p2
   rw[q1] at p1;cases p1
   refine⟨l,xs,v,rfl,rfl,p3,by rw[p5.length];exact hz,?_⟩;refine k Z _ ?_ (R1.write ho' q2 (Reps.cons r1 p5));rw[jc1 (fob_t.mpr (.inr ⟨i,ho',q2⟩))];exact jan s1
  ·cases hg
 ·exact⟨J,Hz,F,Y,.error y,R,e1,k⟩
section
variable {a tg:Expr}{p:Pos}
def je5:List D->Option (List D)
 | [.int i,.int j,.int k]=>if k≠0/\-(2 ^ 60)<k/\k<2 ^ 60 then some (jk2 i k (Builtin.Range.rangeSize i j k).toNat) else none
 | _=>none
theorem js5(hg:Gl X "range")(hm:X.mg "range"=none)(ha:DA X O E (a::es) fl)(hs:autoParam (starEach (a::es) X.env=(false,eval a X.env)::starEach es X.env) zau2._auto_1)(hp:autoParam ((backTo pos (starEach es X.env)).any (·.1)=false) zau2._auto_1) :
  DI X O E tg (.Call (.Name "range" p) (a::es) [] pos) (jca je5 fl):=by
 rintro U s Z H R I ⟨J,Hz,F,Y,r,RS0,hf,k⟩;refine jup hg hm ha hs hp U s Z H R I ?_;rcases M.b_inv hf with ⟨d,e1,hf⟩|⟨y,e1,rfl⟩
 ·refine⟨J,Hz,F,Y,.ok d,RS0,e1,fun vs H1 s1 r1=>?_⟩;obtain⟨ds,hd,rfl⟩:=M.o_inv hf;unfold je5 at hd
  split at hd
  ·rename_i i0 j kk
   split at hd
   ·rename_i hk;cases hd;obtain⟨v,r',rfl,q1,q2⟩:=reps_cons.mp r1;obtain⟨v2,r2,rfl,q3,q4⟩:=reps_cons.mp q2;obtain⟨v3,r3,rfl,q5,q6⟩:=reps_cons.mp q4;cases reps_nil.mp q6;cases rep_int.mp q1;cases rep_int.mp q3;cases rep_int.mp q5;refine⟨i0,j,kk,rfl,hk,k _ H1 s1 ?_⟩;refine jtq (by unfold jk2;simp) fun i d hd H=>?_
    unfold jk2 at hd;rw[zbb] at hd
    cases q:(List.range (Builtin.Range.rangeSize i0 j kk).toNat)[i]? with
    | none=>rw[q] at hd;cases hd
    | some m =>
     rw[q] at hd;have:m=i:=by
      have:=(zbc.mp q).2;simpa using this.symm
     subst this;cases hd;exact rep_int.mpr rfl
   ·cases hd
  ·cases hd
 ·exact⟨J,Hz,F,Y,.error y,RS0,e1,k⟩
end
def jnw:D->D->Option D
 | .int i,.int j=>if j≠0/\-DIVB<j/\j<DIVB then some (.int (i.fdiv j)) else none
 | _,_=>none
theorem jq3:OpR X (binaryOp .FloorDiv) (rI (fun _ j=>j≠0/\-DIVB<j/\j<DIVB) fun i j=>.int (i.fdiv j)):=opI fun i j t u s E Q hc q=>by
 refine PyProof.Rows.floordiv_int hc.1 q (.inl (PyProof.noPylong_of_log2 ?_));have hn:j.natAbs≠0:=by omega
 have hlt:j.natAbs<DIVN:=by
  have:=hc.2;unfold DIVB at this;omega
 rw[jjx] at hlt;exact (Nat.log2_lt (k:=9000) hn).mpr hlt
theorem joh:OpD X.K jnw (rI (fun _ j=>j≠0/\-DIVB<j/\j<DIVB) fun i j=>.int (i.fdiv j)):=by
 intro x y d hd J H G u v Q hG ru rv k;unfold jnw at hd
 split at hd
 ·split at hd
  ·rename_i hz;cases hd;exact⟨_,_,rep_int.mp ru,rep_int.mp rv,hz,k _ H (Same.refl H) (rep_int.mpr rfl)⟩
  ·cases hd
 ·cases hd
inductive tDP(K:W.Frag)(O:List Nat)(f:DSt->M D)(Z:L2.St)(H:Hp)(Q:VK):Prop
 | mk (J:Rho) (Hz:Hp) (F:qf) (Y:DSt) (es:List D) (R:RS J K Hz H F O Z Y) (hf:f Y=some (.ok (.tup es))) (k:∀ l xs H',Same H H'->H' l=some (.tup xs)->fob F Z O l=false->Reps J K (hid H' (fob F Z O)) es xs->Q (.ref l) H')
def DP(X:Cx)(O:List Nat)(e:Expr)(f:DSt->M D):Prop:=PE X e (tDP X.K O f)
inductive spT(K:W.Frag)(n:Nat)(m:List D->M D)(vs:List V)(H:Hp)(Q:VK)(E:XK):Prop
 | mk (hn:vs.length=n) (J:Rho) (ds es:List D) (F:qf) (hF:∀ b,F b=true->H b≠none) (hr:Reps J K (hid H F) ds vs) (hf:m ds=some (.ok (.tup es))) (k:∀ l xs H',Same H H'->H' l=some (.tup xs)->F l=false->Reps J K (hid H' F) es xs->Q (.ref l) H')
structure CalT(P:Program)(w:World)(K:W.Frag)(mg:qc)(base:Heap)(k:Nat)(x:Str)(n:Nat)(m:List D->M D):Prop where
 ex:CalX P w K mg base k x n (spT K n m)
 ar:∀ ds r,m ds=some r->ds.length=n
theorem jyw{p:Pos}{x:Str}{k n:Nat}{m:List D->M D}(C:CalT X.prog X.w X.K X.mg X.base k x n m)(hr:Room k X.A)(ha:DA X O E0 (e::es) fl)(hg:autoParam (Gl X x) zau2._auto_1)(hdb:autoParam (qj x) zau1._auto_1)(he:autoParam (starEach (e::es) X.env=(false,eval e X.env)::starEach es X.env) zau2._auto_1)
  (hpl:autoParam ((backTo pos (starEach es X.env)).any (·.1)=false) zau2._auto_1):DP X O (.Call (.Name x p) (e::es) [] pos) (ja2 m fl):=by
 obtain⟨f,fd,ps,hl,hm,hk,hb,F⟩:=C.ex;rintro U s Z H Q I ⟨J,Hz,G,Y,us,R,hf,h⟩;refine jpw F hr hg hm hk hb .nil (fun _ _ _ _ _ _ _ z=>z.elim) ha hdb he hpl U s Z H Q I (E:=E0) ?_;rcases M.b_inv hf with ⟨ds,e1,hf⟩|⟨y,e1,z⟩
 ·refine⟨J,Hz,G,Y,.ok ds,R,e1,fun vs H1 s1 r1=>?_⟩;show spT X.K n m (vs++[]) H1 Q E0;rw[List.append_nil];refine⟨by rw[r1.length];exact C.ar ds _ hf,J,ds,us,fob G Z O,fun b hb z=>?_,r1,hf,?_⟩
  ·rw[(R.mono s1).fresh z] at hb;cases hb
  ·exact fun l xs H' s'=>h l xs H' (s1.trans s')
 ·cases z
end
section
variable {P:Program}{w:World}{K:W.Frag}{mg:qc}{base:Heap}
theorem jys{x:Str}{st:Stmt}{N ps:List Str}{k:Nat}{e:Expr}{fe:DSt->M D}{p1 p2 p3:Pos}(hf:jbh K mg x st ps)(S:FnScope N ps (jae st))(hB:jbp st=[.Return (some (.Call (.Name "tuple" p1) [e] [] p2)) p3])(hmt:mg "tuple"=none)(hL:∀ Y d,fe Y=some (.ok d)->∃ es,d=.lst es)
  (hbody:∀ (f:Addr) (cdv:Value) (A:Around) (outer:List Env) (s:Shared) (H:Hp) (E:XK),Room k (A.deeper (PyProof.Rows.envOfC x (jae st) s.heap.objs.size f cdv)) ->
   DE (cxOf CX0 P w K mg base N x (jae st) f cdv A outer s H E).nox [] E0 e fe/\Gl (cxOf CX0 P w K mg base N x (jae st) f cdv A outer s H E).nox "tuple"/\starEach [e] (cxOf CX0 P w K mg base N x (jae st) f cdv A outer s H E).nox.env=[(false,eval e (cxOf CX0 P w K mg base N x (jae st) f cdv A outer s H E).nox.env)]) :
  CalT P w K mg base (k+1) x ps.length (mir ps.length N.length (gRet (fL kTuple (jac fe fNil)))):=by
 obtain⟨f,fd,hm,F,hb⟩:=hf;refine⟨⟨f,fd,ps,rfl,hm,F.kp,hb,?_⟩,fun ds r h=>?_⟩
 ·refine F.ok S (fun vs H Q E h=>h.1) fun cdv A outer s H vs Q E hr h=>?_
  obtain⟨hl,J,ds,es,F',fin,rp,hmr,k0⟩:=h;obtain⟨b1,b2,b3⟩:=hbody f cdv A outer s H E hr;rw[hB];refine⟨_,jpz (juu (jgg jbr b2 hmt jee (jgf b1 jly b3) (by decide) (by decide) b3 rfl)),?_⟩;have hdl:ds.length=ps.length:=by rw[<- rp.length];exact hl
  unfold mir at hmr;rw[if_pos hdl] at hmr;have R:RS J K H H F' [] (L2.start N vs) (startD N.length ds):=by
   refine⟨?_,Same.refl H,fin,fun i d hd _=>?_,fun i hi=>absurd hi (by simp),fun i hi=>absurd hi (by simp)⟩
   ·simp[L2.start,startD,rp.length]
   ·obtain⟨v,e,rv⟩:=rp.get (ji1 hd);exact⟨v,jk5 e,by rw[ja8];exact rv⟩
  rcases M.b_inv hmr with ⟨o,e1,hmr⟩|⟨y,e1,z⟩
  ·rcases M.b_inv e1 with ⟨d,e2,e3⟩|⟨y,e2,z⟩
   ·cases e3;cases hmr;rcases M.b_inv e2 with ⟨xs,e4,e5⟩|⟨y,e4,z⟩
    ·rcases M.b_inv e4 with ⟨d',e6,e7⟩|⟨y,e6,z⟩
     ·cases e7;obtain⟨ys,rfl⟩:=hL _ _ e6;cases e5;refine⟨J,H,F',_,.ok (.lst es),R,e6,fun v H1 s1 r1=>?_⟩;rw[ja8] at r1;obtain⟨a,zs,rfl,q1,q2⟩:=rep_lst.mp r1;refine⟨a,zs,rfl,.inl ⟨jdi jao q1,fun l hl'=>?_⟩⟩;refine k0 l zs _ (s1.trans (jax hl')) jaq ?_ (q2.mono (jan (jax hl')))
      cases z:F' l with
      | false=>rfl
      | true =>
       exact absurd hl' (fun w=>fin l z (by
        cases y:H l with
        | none=>rfl
        | some o=>rw[s1 l o y] at w;cases w))
     ·cases z
    ·cases z
   ·cases z
  ·cases z
 ·unfold mir at h
  split at h
  ·assumption
  ·cases h
end
theorem jvt{own:Nat}{caps:qh}{fi:DSt->M (List D)}{h:D->DSt->Option DSt}{tc:DSt->M Bool}{fe:DSt->M D}:∀ Y d,jce own caps fi h tc fe Y=some (.ok d)->∃ es,d=.lst es:=by
 intro Y d e;rcases M.b_inv e with ⟨ds,e1,e2⟩|⟨y,e1,z⟩
 ·obtain⟨a,h1,h2⟩:=M.o_inv e2;cases h2
  cases hc:jb0 h tc fe ds (jcf own caps Y) with
  | none=>rw[hc] at h1;cases h1
  | some tot =>
   rw[hc] at h1;have h1':jbi tot=some d:=h1;unfold jbi at h1'
   split at h1'
   ·cases h1';exact⟨_,rfl⟩
   ·cases h1'
 ·cases z
end DL
namespace L2
open PyProof.Rows
def jDz:List V->Hp->VK->Prop:=fun xs H Q=>∃ p kvs,xs=[.ref p]/\H p=some (.dT kvs)/\∀ ads:List Addr,ads.length=kvs.length->(∀ (i:Nat) ad q,ads[i]? = some ad->kvs[i]? = some q->H ad=some (.tup (q.1.map kV)))->∀ l,H l=none->Q (.ref l) (upd H l (.lst (ads.map V.ref)))
theorem jrq{X:Cx}(hc:X.calm=true):CallR X (.type "list") jDz:=by
 intro U s Z H xs us Q I r h;obtain⟨p,kvs,rfl,hq,q⟩:=h;obtain⟨u,rfl,rx⟩:=jp4 r;cases rx;obtain⟨hz,y,zs,rr,o,es,ep,h1,h2,h3,h4,h5⟩:=(show ObjOk X.prog X.w H s.heap p (.dT kvs) from I.hok p _ hq)
 have hlz:zs.length=kvs.length:=(Paired.length rr).symm;have hls:es.size=kvs.length:=by rw[<- Array.length_toList,h4,zav,hlz]
 have at_:∀ (i:Nat) z qq,zs[i]? = some z->kvs[i]? = some qq->H z.2.1=some (.tup (qq.1.map kV)):=by
  have key:∀ {kvs:List (List Key×V)} {zs:List (List Key×Addr×Value)},Paired (fun (p:List Key×V) (q:List Key×Addr×Value)=>p.1=q.1/\H q.2.1=some (.tup (p.1.map kV))/\RelV p.2 q.2.2) kvs zs->∀ (i:Nat) z qq,zs[i]? = some z->kvs[i]? = some qq->H z.2.1=some (.tup (qq.1.map kV)):=by
   intro kvs zs r
   induction r with
   | nil=>intro i z qq e;cases e
   | cons hd _ ih =>
    intro i z qq e1 e2
    cases i with
    | zero=>cases e1;cases e2;exact hd.2.1
    | succ i=>exact ih i z qq (by simpa using e1) (by simpa using e2)
  exact key rr
 refine W.kdl_call (A:=X.A) (jze (es:=es) (ep:=ep) y) (I.ok.hd hc) ⟨o,h1,h2,h3⟩ (by rw[hls];exact hz) fun h' tk acc c' hk hS hacc=>?_
 have hl:acc.toList.length=es.size:=by rw[Array.length_toList];exact hacc.1
 have ha:acc.toList=es.toList.map (·.key):=by
  refine List.ext_getElem (by rw[hl,zav,Array.length_toList]) fun i h1 h2=>?_
  obtain⟨e,e1,e2⟩:=hacc.2 i acc.toList[i] (by rw[<- Array.getElem?_toList];exact zax h1);rw[e2,List.getElem_map];congr 1;rw[<- Array.getElem?_toList,zax (by rw[zav] at h2;exact h2)] at e1;exact (zbz e1).symm
 have hv:Vals ((zs.map fun z=>z.2.1).map V.ref) acc.toList:=by
  rw[ha,h4,List.map_map,List.map_map];exact jow zs
 refine⟨.ref s.heap.objs.size,_,I.laid (t':=tk) hk (zac _) (show ObjOk X.prog X.w _ h' _ (.lst ((zs.map fun z=>z.2.1).map V.ref)) from ⟨by rw[zav,zav,hlz];exact hz,acc.toList,c',hv,by rw[Array.toArray_toList];exact hS⟩),rfl,
  q (zs.map fun z=>z.2.1) (by rw[zav,hlz]) (fun i ad qq e1 e2=>?_) _ (I.hok.fresh (zac _))⟩
 rw[zbb] at e1;obtain⟨z,e3,e4⟩:=Option.map_eq_some_iff.mp e1;rw[<- e4];exact at_ i z qq e3 e2
end L2
namespace DL
open L2
noncomputable def kD(k:List Int):D:=.tup (k.map .int)
noncomputable def atG(g:List (List Int×D)->List Int->Option (D×List (List Int×D)))(x:D)(k:List Int):MS D:=fun Ω=>match x with
 | .obj n=>match Ω[n]? with
  | some (.dct kvs)=>match g kvs k with
   | some (d,kvs')=>some (.ok d,Ω.set n (.dct kvs'))
   | none=>none
  | _=>none
 | _=>none
inductive AtGI(g:List (List Int×D)->List Int->Option (D×List (List Int×D)))(x:D)(k:List Int)(Ω Ω':Sto)(r:Except XD D):Prop
 | mk (n:Nat) (kvs kvs':List (List Int×D)) (d:D) (h1:x=.obj n) (h3:Ω[n]? = some (.dct kvs)) (h4:g kvs k=some (d,kvs')) (h5:r=.ok d) (h6:Ω'=Ω.set n (.dct kvs'))
theorem jsl{g:List (List Int×D)->List Int->Option (D×List (List Int×D))}{x:D}{k:List Int}{Ω Ω':Sto}{r:Except XD D}(h:atG g x k Ω=some (r,Ω')):AtGI g x k Ω Ω' r:=by
 unfold atG at h
 split at h
 ·rename_i n
  split at h
  ·rename_i kvs hn
   split at h
   ·rename_i d kvs' hg;cases h;exact⟨n,kvs,kvs',d,rfl,hn,hg,rfl,rfl⟩
   ·cases h
  ·cases h
 ·cases h
def keyK{α:Type}(y:D)(m:List Int->MS α):MS α:=match tupI y with
 | some k=>m k
 | none=>fun _=>none
theorem jAx{y:D}{k:List Int}(h:tupI y=some k):y=kD k:=by
 unfold tupI at h
 split at h
 ·rw[jmr h];rfl
 ·cases h
theorem jqv{α:Type}{y:D}{m:List Int->MS α}{Ω:Sto}{r:Except XD α×Sto}(h:keyK y m Ω=some r):∃ k,y=kD k/\m k Ω=some r:=by
 unfold keyK at h
 cases e:tupI y with
 | none=>rw[e] at h;cases h
 | some k=>rw[e] at h;exact⟨k,jAx e,h⟩
def keyM{α:Type}(y:M D)(m:List Int->MS α):MS α:=match y with
 | some (.ok d)=>keyK d m
 | _=>fun _=>none
theorem jwi{α:Type}{y:M D}{m:List Int->MS α}{Ω:Sto}{r:Except XD α×Sto}(h:keyM y m Ω=some r):∃ k,y=some (.ok (kD k))/\m k Ω=some r:=by
 unfold keyM at h
 split at h
 ·obtain⟨k,e,h'⟩:=jqv h;exact⟨k,by rw[e],h'⟩
 ·cases h
theorem jpi(k:List Int):k.map V.int=(k.map (Sum.inl:Int->Key)).map kV:=by
 rw[List.map_map];rfl
def mSdT(fo:DSt->MS D)(fk:DSt->M D)(fv:DSt->MS D):DSt->MS D:=fun Y=>(fo Y).b fun x=>(chkD x).b fun x=>keyM (fk Y) fun k=>(fv Y).b fun v=>atG (gSdD v) x k
def jzl(fo fi:DSt->MS D):DSt->MS D:=fun Y=>(fo Y).b fun x=>(fi Y).b fun y=>keyK y fun k=>atG gIxD x k
def jtz(xs:List D):MS D:=fun Ω=>match xs with
 | [.obj n]=>match Ω[n]? with
  | some (.dct kvs)=>some (.ok (.lst (kvs.map fun p=>kD p.1)),Ω)
  | _=>none
 | _=>none
section
variable {X:Cx}{O:List Nat}{a b e i o f:Expr}{fo fi fv:DSt->MS D}{fk:DSt->M D}{fl:DSt->MS (List D)}{pos:Pos}
theorem jCz{p2 p3:Pos}(hu:X.A.units+1<cLine)(ho:ME X O o fo)(hk:DP X O e fk)(hv:ME X O f fv)(m:autoParam (M2 X o "setdefault" p2 e f p3) zau8._auto_1) :
  ME X O (.Call (.Attribute o "setdefault" p2) [e,f] [] p3) (mSdT fo fk fv):=by
 rintro U s Z H Q I ⟨Jz,Sz,Hz,F,J,S,Y,Ω,R,r,Ω',hf,k⟩;refine jDh hu ho hk hv m U s Z H Q I ?_;rcases MS.b_inv hf with ⟨x,Ω1,e1,hf⟩|⟨x,e1,rfl⟩
 ·refine⟨Jz,Sz,Hz,F,J,S,Y,Ω,R,.ok x,Ω1,e1,fun u J1 S1 H1 R1 l1 v1 r1=>?_⟩;rcases MS.b_inv hf with ⟨x',Ω1',e1',hf⟩|⟨x',e1',rfl⟩
  ·obtain⟨n,kvs0,rfl,hi,hr,rfl⟩:=jqd e1';cases hr;obtain⟨ad,vk0,rfl,s1,s2,s3,s4,s5⟩:=R1.dct hi r1;refine⟨ad,rfl,.inr ⟨vk0,.inl s3⟩,?_⟩;obtain⟨kk,e2,hf⟩:=jwi hf;refine⟨J1,_,un F S1,Y,kk.map .int,R1.rs,e2,fun p ws H2 sm hp hpf rp=>?_⟩;have R2:=R1.mono sm;rw[reps_ints.mp rp] at hp;rcases MS.b_inv hf with ⟨dv,Ω3,e3,hf⟩|⟨y,e3,rfl⟩
   ·refine⟨Jz,Sz,Hz,F,J1,S1,Y,_,R2,.ok dv,Ω3,e3,fun z J3 S3 H3 R4 l3 v3 r3=>?_⟩;obtain⟨n',kvs,kvs',d,hx',hn,hg',rfl,rfl⟩:=jsl hf;cases hx';obtain⟨b1,t1,t2,vk,t3,t4,t5⟩:=R4.sto.ats n _ hn;have qa:=l3 n ad s1;rw[qa] at t1;cases t1
    have hp3:H3 p=some (.tup ((kk.map (Sum.inl:Int->Key)).map kV)):=by
     rw[<- jpi];exact (hid_some.mp (v3 p _ (hid_some.mpr ⟨hpf,hp⟩))).2
    unfold gSdD at hg'
    by_cases hz:kvs.length<sizeLine
    ·rw[if_pos hz] at hg';have hlen:vk.length=kvs.length:=by
      have:=congrArg List.length t4;rw[zav,zav] at this;exact this
     have vv:=v1.trans ((jan sm).trans v3);have ll:=l1.trans l3;refine⟨vk,kk.map Sum.inl,p,t3,rfl,hp3,by rw[hlen];exact hz,fun v0 hv0=>?_,fun hv0=>?_⟩
     ·rcases jqy kk t4 t5 with ⟨z1,z2⟩|⟨d0,u0,z1,z2,z3⟩
      ·rw[z2] at hv0;cases hv0
      ·rw[z2] at hv0;cases hv0
       rw[z1] at hg';cases hg';rw[jra hn] at k;exact k _ J3 S3 _ R4 ll vv z3
     ·rcases jqy kk t4 t5 with ⟨z1,z2⟩|⟨d0,u0,z1,z2,z3⟩
      ·rw[z1] at hg';cases hg';obtain⟨s1',s2'⟩:=R4.putS (so':=.dct (kvs++[(kk,dv)])) (o':=.dT (vk++[(kk.map Sum.inl,z)])) hn qa t2 t3 (fun _ z=>nomatch z) ⟨_,jaq,by rw[List.map_append,List.map_append,t4];rfl,by rw[List.map_append,List.map_append];exact t5.append (Reps.cons r3 Reps.nil)⟩;exact k _ J3 S3 _ s1' ll (by rw[s2'];exact vv) (by rw[s2'];exact r3)
      ·rw[z2] at hv0;cases hv0
    ·rw[if_neg hz] at hg';cases hg'
   ·exact⟨Jz,Sz,Hz,F,J1,S1,Y,_,R2,.error y,_,e3,trivial⟩
  ·exact absurd (jqd e1') (fun ⟨_,_,_,_,h,_⟩=>by cases h)
 ·exact⟨Jz,Sz,Hz,F,J,S,Y,Ω,R,.error x,_,e1,trivial⟩
theorem jzn(hu:X.A.units+1<cLine)(ho:ME X O o fo)(hi:ME X O i fi)(hs:autoParam (NoSl i) zau5._auto_1):ME X O (.Subscript o i pos) (jzl fo fi):=by
 rintro U s Z H Q I ⟨Jz,Sz,Hz,F,J,S,Y,Ω,R,r,Ω',hf,k⟩;refine jwu hu ho hi hs U s Z H Q I ?_;rcases MS.b_inv hf with ⟨x,Ω1,e1,hf⟩|⟨x,e1,rfl⟩
 ·refine⟨Jz,Sz,Hz,F,J,S,Y,Ω,R,.ok x,Ω1,e1,fun u J1 S1 H1 R1 l1 v1 r1=>?_⟩;rcases MS.b_inv hf with ⟨y,Ω2,e2,hf⟩|⟨y,e2,rfl⟩
  ·refine⟨Jz,Sz,Hz,F,J1,S1,Y,Ω1,R1,.ok y,Ω2,e2,fun w J2 S2 H2 R2 l2 v2 r2=>?_⟩;obtain⟨kk,ey,hf'⟩:=jqv hf;subst ey;obtain⟨n,kvs,kvs',d,rfl,hn,hg,rfl,rfl⟩:=jsl hf';obtain⟨ad,vk,rfl,t1,t2,t3,t4,t5⟩:=R2.dct hn ((r1.rho l2).mono v2);obtain⟨b,xs,rfl,q1,q2⟩:=rep_tup.mp r2;rw[reps_ints.mp q2,jpi] at q1;unfold gIxD at hg;rcases jqy kk t4 t5 with ⟨z1,z2⟩|⟨d0,u0,z1,z2,z3⟩
   ·rw[z1] at hg;cases hg
   ·rw[z1] at hg;cases hg;rw[jra hn] at k;exact⟨ad,vk,kk.map Sum.inl,u0,⟨b,rfl,rfl,t3,jdl jao q1⟩,z2,k _ J2 S2 H2 R2 (l1.trans l2) (v1.trans v2) z3⟩
  ·exact⟨Jz,Sz,Hz,F,J1,S1,Y,Ω1,R1,.error y,_,e2,trivial⟩
 ·exact⟨Jz,Sz,Hz,F,J,S,Y,Ω,R,.error x,_,e1,trivial⟩
theorem jwl{p:Pos}(hc:X.calm=true)(hG:Gl X "list")(hm:X.mg "list"=none)(hl:MA X O [a] fl)(he:autoParam (starEach [a] X.env=(false,eval a X.env)::starEach [] X.env) zau2._auto_1)(hpl:autoParam ((backTo pos (starEach [] X.env)).any (·.1)=false) zau2._auto_1) :
  ME X O (.Call (.Name "list" p) [a] [] pos) (fun Y=>(fl Y).b jtz):=by
 rintro U s Z H Q I ⟨Jz,Sz,Hz,F,J,S,Y,Ω,R,r,Ω',hf,k⟩;refine jgg (jrq hc) hG hm jo6 hl (by decide) (by decide) he hpl U s Z H Q I ?_;rcases MS.b_inv hf with ⟨xs,Ω1,e1,hf⟩|⟨x,e1,rfl⟩
 ·refine⟨Jz,Sz,Hz,F,J,S,Y,Ω,R,.ok xs,Ω1,e1,fun us J1 S1 H1 R1 l1 v1 r1=>?_⟩;unfold jtz at hf
  split at hf
  ·rename_i n
   split at hf
   ·rename_i kvs hn;cases hf;obtain⟨v,rfl,q⟩:=ji0 r1;obtain⟨ad,vk,rfl,t1,t2,t3,t4,t5⟩:=R1.dct hn q;refine⟨ad,vk,rfl,t3,fun ads hla hat l hl'=>?_⟩;have hlv:vk.length=kvs.length:=by
     have:=congrArg List.length t4
     rwa [zav,zav] at this
    refine k _ J1 S1 _ (R1.mono (jax hl')) l1 (v1.trans (jan (jax hl'))) (jfl hl' (R1.fresh hl') ?_);refine jk3 (by rw[zav,zav,hla,hlv]) fun i d u e1 e2=>?_
    rw[zbb] at e1 e2;obtain⟨pq,g1,rfl⟩:=Option.map_eq_some_iff.mp e1;obtain⟨a1,g2,rfl⟩:=Option.map_eq_some_iff.mp e2;have hlt:i<vk.length:=by rw[hlv];exact (zbc.mp g1).1
    have g3:vk[i]? = some vk[i]:=zax hlt;have hk:vk[i].1=pq.1.map Sum.inl:=by
     have:=congrArg (·[i]?) t4;simp only[zbb,g1,g3,Option.map_some,Option.some.injEq] at this;exact this
    have ha:=hat i a1 vk[i] g2 g3;rw[hk,<- jpi] at ha;exact rep_tup.mpr ⟨a1,_,rfl,SqT.of (R1.sto.tv a1 _ ha),reps_ints.mpr rfl⟩
   ·cases hf
  ·cases hf
 ·exact⟨Jz,Sz,Hz,F,J,S,Y,Ω,R,.error x,_,e1,trivial⟩
end
end DL
namespace L2
open PyProof.Rows
noncomputable abbrev jnr:Obj:={ cls:=.type "dict",data:=.dict #[] }
noncomputable abbrev jkb:Obj:={ cls:=.type "cell",data:=.cell none }
theorem jm9{M:Model}{A:Around}{E:qe}{s:Shared}{scope:Scope}{globals:Addr}{closure:List (Str×Addr)}{qual y:Str}{around:Env}{Q:Env->Shared->Prop}(cf:∀ n acc,cellsFrom n scope.names acc=(y,n)::acc)(pc:∀ h,pushCells h scope.names=h.push jkb)
  (hQ:Q (newEnv scope s.heap.objs.size globals ((y,s.heap.objs.size+1)::closure) qual none .none (some around) builtinsNs) { s with heap:=(s.heap.push jnr).push jkb }):wpAny M A (newFunctionEnv scope globals closure [] qual none .none (some around)) Q E s:=by
 simp only[newFunctionEnv,Option.isSome_some,if_true];refine zay (wpAny_alloc ?_);refine zay (wpAny_layCells _ (fun name kind cells=>by cases hkc:kind == NameKind.cell<;>simp[hkc]) _ _ _ _ ?_);rw[cf,pc,show ({ s with heap:=s.heap.push jnr }:Shared).heap.objs.size=s.heap.objs.size+1 from Heap.size_push ..];exact zay (zab (zab hQ))
def jct(X:Cx)(scope:Scope)(N:List Str)(y:Str)(C:Addr)(s0:Shared)(H0:Hp)(ex:List Addr):Cx where
 prog:=X.prog
 w:=X.w
 K:=X.K
 mg:=X.mg
 base:=X.base
 A:=X.A
 N:=N
 s₀:=s0
 Hz:=H0
 env:=compEnvC scope ((y,C+1)::clOf X.env.cells scope.names []) C X.env
 outer:=X.stack
 stack:=X.stack
 ex:=ex
 fn:=fun x=>x == y
 calm:=X.calm
 pn:=[]
 xe:=fun _ _=>False
noncomputable def jst(N:List Str)(out:List (Str×NameKind))(inn:List (Str×NameKind))(caps:qh)(y:Str):Bool :=
 inn.all (fun p=>p.2 != .cell || p.1 == y)&&inn.lookup y == some .cell&&inn.all (fun p=>p.2 != .local || inn.lookup p.1 == some .local) &&
 inn.all (fun p=>p.2 != .free || (out.lookup p.1 == some .cell || out.lookup p.1 == some .free)) &&
 caps.all (fun p=>N[p.2]? == some p.1&&inn.lookup p.1 == some .free)
structure CapsX(X:Cx)(scope:Scope)(caps:qh)(y:Str):Prop where
 kind:scope.kind=.function
 only:∀ x∈scope.names,x.2=.cell->x.1=y
 yc:scope.names.lookup y=some .cell
 loc:∀ x∈scope.names,x.2=.local->scope.names.lookup x.1=some .local
 fre:∀ p∈scope.names,p.2=.free->X.env.kindOf p.1=some .cell\/X.env.kindOf p.1=some .free
 cap:∀ p∈caps,X.N[p.2]? = some p.1/\scope.names.lookup p.1=some .free
 cf:∀ n acc,cellsFrom n scope.names acc=(y,n)::acc
 pc:∀ h,pushCells h scope.names=h.push jkb
theorem jvo{X:Cx}{scope osc:Scope}{N:List Str}{caps:qh}{y:Str}(hN:X.N=N)(ho:X.env.scope=osc)(hk:scope.kind=.function)(h:jst N osc.names scope.names caps y=true)(cf:∀ n acc,cellsFrom n scope.names acc=(y,n)::acc)(pc:∀ h,pushCells h scope.names=h.push jkb):CapsX X scope caps y:=by
 unfold jst at h;simp only[Bool.and_eq_true,List.all_eq_true] at h;obtain⟨⟨⟨⟨h1,h0⟩,h2⟩,h3⟩,h4⟩:=h;refine⟨hk,fun x hx hc=>?_,by simpa using h0,fun x hx hl=>?_,fun p hp hf=>?_,fun p hp=>?_,cf,pc⟩
 ·have:=h1 x hx;rw[hc] at this;simpa using this
 ·have:=h2 x hx;rw[hl] at this;simpa using this
 ·have:=h3 p hp;rw[hf] at this;show X.env.scope.names.lookup p.1=_\/X.env.scope.names.lookup p.1=_;rw[ho];simpa using this
 ·have:=h4 p hp;rw[hN];simpa using this
section
variable {X:Cx}{U:qd}{Z:St}{H:Hp}{s:Shared}
theorem jtn{scope:Scope}{own:List Str}{caps:qh}{y:Str}{fp:List Addr}(I:Inv X U Z H s)(ck:CapsX X scope caps y)
  (hf:∀ b∈fp,FpOk X U H b) (hb:∀ b∈fp,b<s.heap.objs.size) :
  Inv (jct X scope (own++caps.map (·.1)) y s.heap.objs.size s H fp) [] (jbq own.length caps Z) H { s with heap:=(s.heap.push jnr).push jkb }:=by
 have up:∀ b o,s.heap.get? b=some o->((s.heap.push jnr).push jkb).get? b=some o:=fun b o e=>zaz _ (zaz _ e)
 have stk:∀ b∈fp,b∉frs X.stack:=fun b hb' z=>by
  obtain⟨_,f1,f2,_⟩:=hf b hb';rcases List.mem_cons.mp (I.stkSub b z) with q|q
  ·exact f1 q
  ·exact f2 q
 have clc:∀ x c,(clOf X.env.cells scope.names []).lookup x=some c->X.env.cells.lookup x=some c:=fun x c h=>by
  rcases jjo _ _ h with e|⟨e1,e2⟩
  ·cases e
  ·obtain⟨c',hc'⟩:=I.ok.has x (ck.fre _ e1 rfl);rw[hc'] at e2 |-
   exact congrArg some e2.symm
 have cell:∀ x c,(clOf X.env.cells scope.names []).lookup x=some c->∃ v,s.heap.IsCell c v:=fun x c h=>I.cell x c (clc x c h)
 have lk:∀ x c,((y,s.heap.objs.size+1)::clOf X.env.cells scope.names []).lookup x=some c->(x=y/\c=s.heap.objs.size+1)\/(clOf X.env.cells scope.names []).lookup x=some c:=fun x c h=>by
  rw[List.lookup_cons] at h
  split at h
  ·rename_i e;exact .inl ⟨beq_iff_eq.mp e,(zbz h).symm⟩
  ·exact .inr h
 have clt:∀ x c,(clOf X.env.cells scope.names []).lookup x=some c->c<s.heap.objs.size:=fun x c h=>let ⟨v,z⟩:=cell x c h;z.lt
 have okk:(jct X scope (own++caps.map (·.1)) y s.heap.objs.size s H fp).Ok:=by
  refine⟨I.ok.mod,ck.kind,I.ok.glob,I.ok.blt,zac _,fun x z c h1 h2=>?_,fun x hx=>?_,fun x c hfn hx=>?_,I.ok.hd,I.ok.frames,.inl rfl,fun b z=>⟨?_,fun x c h=>?_⟩,I.bs,
   zez I.ok.bsz I.sz,fun b o e z=>?_,stk,I.stack,I.stkFree⟩
  ·rcases lk x c h1 with ⟨e1,e2⟩|e1
   ·rcases lk z c h2 with ⟨e3,_⟩|e3
    ·rw[e1,e3]
    ·have:=clt z c e3;rw[e2] at this;exact absurd this (Nat.not_lt.mpr (Nat.le_succ _))
   ·rcases lk z c h2 with ⟨e3,e4⟩|e3
    ·have:=clt x c e1;rw[e4] at this;exact absurd this (Nat.not_lt.mpr (Nat.le_succ _))
    ·exact I.ok.inj x z c (clc x c e1) (clc z c e3)
  ·show ∃ c,((y,s.heap.objs.size+1)::clOf X.env.cells scope.names []).lookup x=some c;rw[List.lookup_cons]
   split
   ·exact⟨_,rfl⟩
   ·rename_i hne;have hx':∃ k,(scope.names.map fun (n,k)=>if (k == NameKind.free&&X.env.scope.kind == .function&&X.env.kindOf n == some .cell) then (n,NameKind.cell) else (n,k)).lookup x=some k/\(k=.cell\/k=.free):=by
     rcases hx with q|q
     ·exact⟨_,q,.inl rfl⟩
     ·exact⟨_,q,.inr rfl⟩
    obtain⟨k,q,hk⟩:=hx';obtain⟨k',e,r⟩:=jeq (scope:=scope) q;have m:=PySem.mem_of_lookup e;have hfree:k'=.free:=by
     rcases r with r|r
     ·rcases hk with hk|hk
      ·have:=ck.only _ m (r.symm.trans hk);exact absurd (beq_iff_eq.mpr this) (by rw[hne];decide)
      ·exact r.symm.trans hk
     ·exact r.1
    subst hfree;exact⟨_,jh0 _ _ m⟩
  ·have:x=y:=beq_iff_eq.mp hfn;rcases lk x c hx with ⟨_,e2⟩|e1
   ·rw[e2];exact Nat.le_succ _
   ·subst this;rcases jjo _ _ e1 with e|⟨e3,_⟩
    ·cases e
    ·exfalso;have hx2:((x,s.heap.objs.size+1)::clOf X.env.cells scope.names []).lookup x=some (s.heap.objs.size+1):=by rw[List.lookup_cons,beq_self_eq_true]
     have hx3:((x,s.heap.objs.size+1)::clOf X.env.cells scope.names []).lookup x=some c:=hx;rw[hx2] at hx3;have:=clt x c e1;cases hx3;exact absurd this (Nat.not_lt.mpr (Nat.le_succ _))
  ·exact zcb (hb b z)
  ·rcases lk x c h with ⟨_,e2⟩|e1
   ·rw[e2];exact Nat.ne_of_gt (Nat.lt_succ_of_lt (hb b z))
   ·exact (hf b z).2.2.2.2.1 x c (clc x c e1)
  ·rcases (hf b z).2.2.2.1 with q|q
   ·exact I.ok.noex b o e q
   ·exact absurd (zcy (zbw e) (zez I.ok.bsz q)) (Nat.lt_irrefl _)
 have nsC:((s.heap.push jnr).push jkb).Ns s.heap.objs.size (fun _=>none):=(Heap.Ns.new s.heap (.type "dict")).keeps fun b o e=>zaz _ e
 refine⟨okk,rfl,I.bare,Un.kept up,⟨_,nsC,fun i x v h1 h2 h3=>?_⟩,fun x c h=>?_,I.hok.fresh (zac _),fun x c h=>?_,fun p hp=>absurd (show p∈([]:qd) from hp) (by simp),I.hok.kept up,?_⟩
 ·obtain⟨p,hp,hi,hv⟩:=jnx h2;have hx:p.1=x:=by
   have h1':(own++caps.map (·.1))[i]? = some x:=h1;rw[List.getElem?_append_right hi,zbb,hp] at h1';exact zbz h1'
  subst hx;obtain⟨cN,cf⟩:=ck.cap p (zdv hp);have mem:=PySem.mem_of_lookup cf;obtain⟨m,hn,hl⟩:=I.loc;have kf:=ck.fre _ mem rfl;obtain⟨u,r,l⟩:=hl p.2 p.1 v cN hv (by rcases kf with q|q;exact .inr (.inl q);exact .inr (.inr q));refine⟨u,r,.inr ?_⟩;rcases l with ⟨k,_⟩|⟨k,c,e,z⟩
  ·rcases kf with q|q<;>(rw[q] at k;cases k)
  ·refine⟨jep cf,c,?_,z.keeps up⟩;show ((y,s.heap.objs.size+1)::clOf X.env.cells scope.names []).lookup p.1=some c;have ny:(p.1 == y)=false:=by
    rw[beq_eq_false_iff_ne];intro z;rw[z,ck.yc] at cf;cases cf
   rw[List.lookup_cons,ny];show (clOf X.env.cells scope.names []).lookup p.1=some c;rw[jh0 _ _ mem,e];rfl
 ·rcases lk x c h with ⟨_,e2⟩|e1
  ·rw[e2];refine⟨none,jkb,?_,rfl⟩;have:=zbv (s.heap.push jnr) (o:=jkb) rfl;rw[Heap.size_push] at this;exact this
  ·obtain⟨v,z⟩:=cell x c e1;exact⟨v,z.keeps up⟩
 ·rcases lk x c h with ⟨_,e2⟩|e1
  ·rw[e2];exact I.hok.fresh (Nat.le_succ _)
  ·exact I.freeC x c (clc x c e1)
 ·show (jbq own.length caps Z).length=(own++caps.map (·.1)).length;simp[jbq]
theorem jwt{y:Str}{elt tg iter:Expr}{ifs:List Expr}{scope:Scope}{pos:Pos}{own:List Str}{caps:qh}{wi:TI}{g:TG}{tc:TT}{te:TE}(hc:X.calm=true)(ck:CapsX X scope caps y)
  (hi:PI X tg iter wi) (hg:∀ C s0 H0 ex,PG (jct X scope (own++caps.map (·.1)) y C s0 H0 ex) tg g) (ht:∀ C s0 H0 ex,PC0 (jct X scope (own++caps.map (·.1)) y C s0 H0 ex) ifs tc)
  (he:∀ C s0 H0 ex,PE (jct X scope (own++caps.map (·.1)) y C s0 H0 ex) elt te) (hs:autoParam (∀ x,foldedSetIterable iter X.env x=pure x) zau3._auto_1) :
  PE X (.ListComp elt [⟨tg,iter,ifs,0⟩] scope pos) (jsb own.length caps wi g tc te):=by
 intro U s Z H Q I h;have hcl:closureFor scope X.env=pure (clOf X.env.cells scope.names []):=jis fun p hp hf=>I.ok.has p.1 (ck.fre p hp hf)
 rw[eval_ListComp];refine wpAny_comprehension_free (use:=none) rfl hs hcl ck.kind ck.loc (thn (hi U s Z H _ I h) fun v s1 h1=>thn h1 fun itv s2 h2=>?_);obtain⟨it,fp,tn,Jq,H2,e,I2,T,st2,f2,hw⟩:=h2;subst e;obtain⟨W,⟨m0,w0⟩,turn⟩:=hw s2.heap.objs.size (I2.hok.fresh (zac _));refine wpAny_newObj_type ?_;have hD:=I2.hok.fresh (zac s2.heap.objs.size);have I3:Inv X U Z (upd H2 s2.heap.objs.size (.lst [])) { s2 with heap:=s2.heap.push { cls:=.type "list",data:=.seq ([]:List Value).toArray } } :=
  I2.laid (t':=s2.toks) (fun b u e=>zaz _ e) (zac _) ⟨Nat.zero_le _,[],0,.nil,zbv _ rfl⟩
 have hlt:∀ b∈fp,b<s2.heap.objs.size:=fun b hb=>by obtain⟨o,e,_⟩:=T.obj _ _ st2 b hb;exact zbw e
 have f3:∀ b∈fp,FpOk X U (upd H2 s2.heap.objs.size (.lst [])) b:=fun b hb=>⟨by rw[jar (zcb (hlt b hb))];exact (f2 b hb).1,(f2 b hb).2⟩
 have hlt3:∀ b∈fp,b<(s2.heap.push { cls:=.type "list",data:=.seq ([]:List Value).toArray }).objs.size:=fun b hb=>by rw[Heap.size_push];exact Nat.lt_succ_of_lt (hlt b hb)
 refine jm9 ck.cf ck.pc ?_;generalize hS3:({ s2 with heap:=s2.heap.push { cls:=.type "list",data:=.seq ([]:List Value).toArray } }:Shared)=S3 at I3 |-
 have hlt3':∀ b∈fp,b<S3.heap.objs.size:=by rw[<- hS3];exact hlt3
 have I4:=jtn (own:=own) I3 ck f3 hlt3';have st4:tn 0 ((S3.heap.push jnr).push jkb):=T.keep _ _ _ st2 fun b hb o e=>zaz _ (zaz _ (by rw[<- hS3];exact zaz _ e))
 have hsz:s2.heap.objs.size<S3.heap.objs.size:=by rw[<- hS3];show _<(Heap.push _ _).objs.size;rw[Heap.size_push];exact Nat.lt_succ_self _
 generalize hCC:S3.heap.objs.size=C at I4 hsz;have loop:codeAny (model X.prog X.w) X.A (.compLoop (.ListComp elt [⟨tg,iter,ifs,0⟩] scope pos) 0 (.ref it) (.ref s2.heap.objs.size) (compEnvC scope ((y,C+1)::clOf X.env.cells scope.names []) C X.env))
   (compPost (model X.prog X.w) X.A X.xe none (EP X U Z Q) (.ref s2.heap.objs.size) C) { S3 with heap:=(S3.heap.push jnr).push jkb }:=by
  have xf:∀ {H':Hp},(∀ b∈fp,H' b=none)->∀ b∈fp,FpOk (jct X scope (own++caps.map (·.1)) y C S3 (upd H2 s2.heap.objs.size (.lst [])) fp) [] H' b:=fun hn b hb=>by
   refine⟨hn b hb,?_,?_,.inl hb,fun x c e=>(I4.ok.exf b hb).2 x c e,fun p hp=>absurd (show p∈([]:qd) from hp) (by simp)⟩
   ·exact (I4.ok.exf b hb).1
   ·exact I4.ok.exfs b hb
  refine jf6 (CpInv (jct X scope (own++caps.map (·.1)) y C S3 (upd H2 s2.heap.objs.size (.lst [])) fp) tn fp W) ?_ m0
   ⟨0,_,_,I4,st4,fun b hb=>(f3 b hb).1,w0⟩
  rintro n s5 ⟨i,Z5,H5,I5,st5,fr5,w5⟩;rcases turn i n Z5 H5 w5 with ⟨stop,qn⟩|⟨go,N,hN,step⟩
  ·refine thn (T.done (jct X scope (own++caps.map (·.1)) y C S3 (upd H2 s2.heap.objs.size (.lst [])) fp) rfl rfl rfl hc i [] s5 Z5 H5 NoX I5 (xf fr5) st5 stop) fun r s6 hzz=>?_
   obtain⟨hr,I6⟩:=hzz;subst hr;obtain⟨m6,n6,_⟩:=id I6.loc;refine⟨m6,n6,fun h7 sb7=>⟨.ref s2.heap.objs.size,H5,?_,rfl,qn⟩⟩;have C3:S3.heap.objs.size<=C:=Nat.le_of_eq hCC;refine I3.call' (s':={ s6 with heap:=h7 }) (ch:=fp) I6.os (jvd I6.base C3 sb7) (jtk I6.hok I6.free sb7) I6.bare fun b hb=>?_
   obtain⟨_,q1,_,q3,q4,q5⟩:=f3 b hb;exact⟨q3,q1,q4,q5⟩
  ·refine thn (T.item (jct X scope (own++caps.map (·.1)) y C S3 (upd H2 s2.heap.objs.size (.lst [])) fp) rfl rfl rfl hc i [] s5 Z5 H5 NoX I5 (xf fr5) st5 go) fun r s6 hzz=>?_
   obtain⟨u,hr,h6⟩:=hzz;subst hr;refine thn h6 fun _ s7 hzz=>?_
   obtain⟨x,H7,I7,r7,y7,st7,fr7⟩:=hzz;have I7':=I7.pinned (xf fr7) (T.obj _ _ st7);refine thn (hg _ _ _ _ _ s7 Z5 H7 x u _ I7' r7 (step x H7 y7)) fun _ s8 hzz=>?_
   obtain⟨Z8,H8,I8,q8⟩:=hzz;refine thn (ht _ _ _ _ _ s8 Z8 H8 _ I8 q8) fun ok s9 hzz=>?_
   obtain⟨H9,I9,q9⟩:=hzz;have again:∀ {s':Shared} {Z':St} {H':Hp},Inv (jct X scope (own++caps.map (·.1)) y C S3 (upd H2 s2.heap.objs.size (.lst [])) fp) ([]++jk1 fp s7.heap) Z' H' s'->N Z' H'->∃ m,m<n/\CpInv (jct X scope (own++caps.map (·.1)) y C S3 (upd H2 s2.heap.objs.size (.lst [])) fp) tn fp W m s':=fun {s' Z' H'} Ia na=>by
    obtain⟨m',hm,wa⟩:=hN Z' H' na;refine⟨m',hm,i+1,Z',H',Ia.unpinned,T.keep _ _ _ st7 fun b hb o e=>(Ia.pin (b,o) (zcz _ (zcz _ (jco hb e)))).1,fun b hb=>?_,wa⟩;obtain⟨o,e,d⟩:=T.obj _ _ st7 b hb;exact (Ia.pin (b,o) (zcz _ (zcz _ (jco hb e)))).2.1
   cases ok with
   | false =>
    rw[if_neg (by decide)] at q9 |-
    exact again I9 q9
   | true =>
    rw[if_pos rfl] at q9 |-
    refine thn (he _ _ _ _ _ s9 Z8 H9 _ I9 q9) fun y s10 hzz=>?_
    obtain⟨vy,H10,I10,r10,ys,hys,hlen,q10⟩:=hzz;refine thn (jgd _ s10 Z8 H10 (.ref s2.heap.objs.size) [vy] (.ref s2.heap.objs.size) [y] (fun _ H'=>N Z8 H') I10 rfl (.cons r10 .nil) ⟨_,ys,vy,rfl,rfl,hys,hlen,q10⟩) fun _ s11 hzz=>?_
    obtain⟨_,H11,I11,_,q11⟩:=hzz;exact again I11 q11
 exact codeAny_compStart_list loop (T.self _ 0 _ _ _ st4 loop)
end
end L2
namespace DL
open L2
def jfw(h:D->DSt->Option DSt)(tc:DSt->M Bool)(fe:DSt->MS D):List D->DSt->MS (List D)
 | [],_=>MS.p []
 | d::ds,Y=>match h d Y with
  | none=>fun _=>none
  | some Y1=>match tc Y1 with
   | some (.ok true)=>(fe Y1).b fun y=>(jfw h tc fe ds Y1).b fun ys=>MS.p (y::ys)
   | some (.ok false)=>jfw h tc fe ds Y1
   | _=>fun _=>none
inductive CTI(h:D->DSt->Option DSt)(tc:DSt->M Bool)(fe:DSt->MS D)(ds:List D)(Y1:DSt)(Ω Ω':Sto)(r:Except XD (List D)):Prop
 | yes (e:tc Y1=some (.ok true)) (k:((fe Y1).b fun y=>(jfw h tc fe ds Y1).b fun ys=>MS.p (y::ys)) Ω=some (r,Ω'))
 | no (e:tc Y1=some (.ok false)) (k:jfw h tc fe ds Y1 Ω=some (r,Ω'))
theorem jBf{h:D->DSt->Option DSt}{tc:DSt->M Bool}{fe:DSt->MS D}{ds:List D}{d:D}{Y Y1:DSt}{Ω Ω':Sto}{r:Except XD (List D)}(e:h d Y=some Y1)(k:jfw h tc fe (d::ds) Y Ω=some (r,Ω')):CTI h tc fe ds Y1 Ω Ω' r:=by
 unfold jfw at k;rw[e] at k;dsimp only at k
 cases e5:tc Y1 with
 | none=>rw[e5] at k;cases k
 | some t =>
  rw[e5] at k
  cases t with
  | error _=>cases k
  | ok b =>
   cases b with
   | true=>exact .yes e5 k
   | false=>exact .no e5 k
def jt5(own:Nat)(caps:qh)(fi:DSt->MS (List D))(h:D->DSt->Option DSt)(tc:DSt->M Bool)(fe:DSt->MS D):DSt->MS D:=fun Y=>(fi Y).b fun ds=>(if ds.length<=sizeLine then jfw h tc fe ds (jcf own caps Y) else fun _=>none).b fun ys=>MS.o (jbi ys)
inductive CET(X:Cx)(J1:Rho)(S1:qf)(H1 Hv:Hp)(G:qf)(Dd:Addr)(T:Except XD (List D))(Ωe:Sto)(cd:DSt->MS (List D))(i:Nat)(Z:St)(H:Hp):Prop
 | mk (J:Rho) (S:qf) (Y:DSt) (Ω:Sto) (done:List D) (zs:List V) (rr:Except XD (List D)) (hR:RM J S H G X.K X.mg [] J S H Z Y Ω) (hD:H Dd=some (.lst zs)) (hz:Reps J X.K (hid H (un G S)) done zs) (hlen:zs.length<=i)
  (hc:cd Y Ω=some (rr,Ωe)) (hT:T=jCd done rr) (hv:Same Hv (hid H (un G S))) (hl:RLe J1 J) (hsm:∀ b o,S1 b=false->H1 b=some o->H b=some o) (hold:∀ b,S1 b=true->S b=true) (hnew:∀ b,S b=true->S1 b=true\/H1 b=none)
section
variable {X:Cx}{O:List Nat}{elt iter tg:Expr}{fe:DSt->MS D}{fi:DSt->MS (List D)}{pos:Pos}
theorem jwk{scope:Scope}{y:Str}{ifs:List Expr}{tc:DSt->M Bool}{own:List Str}{caps:qh}{h:D->DSt->Option DSt}(hc:X.calm=true)(ck:CapsX X scope caps y)(hi:MI X O tg iter fi)
  (hg:∀ C s0 H0 ex,DG (jct X scope (own++caps.map (·.1)) y C s0 H0 ex) [] tg h) (ht:∀ C s0 H0 ex,DC (jct X scope (own++caps.map (·.1)) y C s0 H0 ex) [] E0 ifs tc) (he:∀ C s0 H0 ex,ME (jct X scope (own++caps.map (·.1)) y C s0 H0 ex) [] elt fe)
  (hcf:autoParam (jgn O caps=true) zau2._auto_1) (hs:autoParam (∀ x,foldedSetIterable iter X.env x=pure x) zau3._auto_1) :
  ME X O (.ListComp elt [⟨tg,iter,ifs,0⟩] scope pos) (jt5 own.length caps fi h tc fe):=by
 rintro U s Z H Q I ⟨Jz,Sz,Hz,F,J,S,Y,Ω,R,r,Ω',hf,k⟩;refine jwt (own:=own) (g:=tG X.K [] h) (tc:=tB X.K [] E0 tc) (te:=tE X.K X.mg [] fe) hc ck hi hg ht he hs U s Z H Q I ?_;rcases MS.b_inv hf with ⟨ds,Ω1,e1,hfA⟩|⟨y,e1,rfl⟩
 ·refine⟨Jz,Sz,Hz,F,J,S,Y,Ω,R,.ok ds,Ω1,e1,fun Jq J1 S1 H1 R1 l1 v1 it Dd hD=>?_⟩
  by_cases hz:ds.length<=sizeLine
  ·rw[if_pos hz] at hfA;obtain⟨T,Ωe,hT,hfin⟩:∃ T Ωe,jfw h tc fe ds (jcf own.length caps Y) Ω1=some (T,Ωe)/\∀ tot,T=.ok tot->∃ dd,jbi tot=some dd/\r=.ok dd/\Ω'=Ωe:=by
    rcases MS.b_inv hfA with ⟨tot,Ω2,e2,hfB⟩|⟨y,e2,rfl⟩
    ·refine⟨.ok tot,Ω2,e2,fun tot' ht=>?_⟩;cases ht;obtain⟨dd,h1,h2,h3⟩:=MS.o_inv hfB;exact⟨dd,h1,h2,h3⟩
    ·exact⟨.error y,_,e2,fun _ h=>by cases h⟩
   let G:qf:=fun b=>fob F Z O b || b == Dd
   have Gt:∀ b,G b=true↔fob F Z O b=true\/b=Dd:=fun b=>by show (_ || _)=true↔_;rw[Bool.or_eq_true,beq_iff_eq]
   have noS:S1 Dd=false:=R1.noS hD;have hff:∀ b,G b=true->S1 b=false:=fun b hb=>by
    rcases (Gt b).mp hb with z|rfl
    ·cases e:S1 b with
     | false=>rfl
     | true =>
      rcases fob_t.mp z with q|q
      ·rw[R1.ff b q] at e;cases e
      ·exact absurd q (R1.base_S e)
    ·exact noS
   have vis:∀ {H2:Hp},Same H1 H2->Same (hid H1 (fob (un F S1) Z O)) (hid H2 (un G S1)):=fun {H2} e b o q=>by
    obtain⟨q1,q2⟩:=hid_some.mp q;refine hid_some.mpr ⟨?_,e b o q2⟩
    cases z:un G S1 b with
    | false=>rfl
    | true =>
     rcases un_t.mp z with z|z
     ·rcases (Gt b).mp z with z|rfl
      ·have h2:fob (un F S1) Z O b=true:=by rw[<- jft];exact un_t.mpr (.inl z)
       rw[h2] at q1;cases q1
      ·rw[hD] at q2;cases q2
     ·have h2:fob (un F S1) Z O b=true:=jg9 b (un_t.mpr (.inr z));rw[h2] at q1;cases q1
   have sm0:Same H1 (upd H1 Dd (.lst [])):=jax hD;have rs0:RS J1 X.K H1 (upd H1 Dd (.lst [])) (un G S1) [] (jbq own.length caps Z) (jcf own.length caps Y):=by
    refine⟨by simp[jbq,jcf],sm0,fun b hb=>?_,fun i d hd _=>?_,fun i hi=>absurd hi (by simp),fun i hi=>absurd hi (by simp)⟩
    ·rcases un_t.mp hb with z|z
     ·rcases (Gt b).mp z with z|rfl
      ·refine jfu fun q=>?_
       have h2:fob (un F S1) Z O b=true:=by rw[<- jft];exact un_t.mpr (.inl z)
       rw[R1.fresh q] at h2;cases h2
      ·rw[jaq];exact fun q=>nomatch q
     ·exact jfu (R1.sto.fin b z)
    ·obtain⟨p,p1,p2,p3⟩:=jgv hd;have hO:p.2∉O:=fun z=>by
      have:=List.all_eq_true.mp hcf p (zdv p1);rw[zcx.mpr z] at this;cases this
     obtain⟨v,q1,q2⟩:=R1.rs.val p.2 d p3 hO;exact⟨v,jic p1 p2 q1,by rw[ja8];exact q2.mono (vis sm0)⟩
   have R0:RM J1 S1 (upd H1 Dd (.lst [])) G X.K X.mg [] J1 S1 (upd H1 Dd (.lst [])) (jbq own.length caps Z) (jcf own.length caps Y) Ω1 :=
    ⟨rs0.rebase,RLe.refl _,fun _ _ _ h=>h,fun _ h=>h,fun _ h=>.inl h,fun i hi=>absurd hi (by simp),hff,by rw[ja8];exact R1.sto.mono (R1.at_store sm0) (vis sm0) (jvc (jou R1.sto.tv fun _ z=>nomatch z) (vis sm0))⟩
   refine⟨fun i m Z' H'=>m=ds.length-i/\i<=ds.length/\CET X J1 S1 H1 (hid H1 (fob (un F S1) Z O)) G Dd T Ωe (jfw h tc fe (ds.drop i)) i Z' H',
    ⟨ds.length,by simp,Nat.zero_le _,J1,S1,_,Ω1,[],[],T,R0,jaq,Reps.nil,zac _,hT,by cases T<;>rfl,vis sm0,RLe.refl _,fun b o _ q=>sm0 b o q,fun _ q=>q,fun _ q=>.inl q⟩,?_⟩
   rintro i m Z' H' ⟨rfl,hil,J',S',Y',Ω2,done,zs,rr,R',hDd,rz,hlen,hcd,hTT,f',l',sm',old',new'⟩;have fv:Same (hid H1 (fob (un F S1) Z O)) (hid H' (fob (un G S') Z' [])):=by rw[ja8];exact f'
   obtain⟨j1,j2⟩:=it H' (fob (un G S') Z' []) i fv (fun p hp=>R'.fresh hp)
   by_cases hlt:i<ds.length
   ·obtain⟨go,yld⟩:=j1 hlt;refine .inr ⟨go,CET X J1 S1 H1 (hid H1 (fob (un F S1) Z O)) G Dd T Ωe (jfw h tc fe (ds.drop (i+1))) (i+1),fun Z2 H2 q=>⟨ds.length-(i+1),by omega,rfl,hlt,q⟩,fun x H2 y=>?_⟩;obtain⟨s2,d,hd,rd⟩:=yld x H2 y;have hdr:ds.drop i=d::ds.drop (i+1):=by
     rw[List.drop_eq_getElem_cons hlt];have:ds[i]=d:=by rw[zax hlt] at hd;exact zbz hd
     rw[this]
    rw[hdr] at hcd
    cases e2:h d Y' with
    | none=>unfold jfw at hcd;rw[e2] at hcd;cases hcd
    | some Y1 =>
     have R2:=R'.mono s2;refine⟨J',_,un G S',Y',d,Y1,R2.rs,rd.rho l',e2,fun Z3 ef R3=>?_⟩;have R3':=(R2.next R3 (by rw[ef];exact Same.refl _)).here;rcases jBf e2 hcd with ⟨e5,hcd⟩|⟨e5,hcd⟩
     ·refine⟨J',_,un G S',Y1,.ok true,R3'.rs,e5,fun H4 s4=>iteT ?_⟩;have R4':=(R3'.mono s4).here;have s24:=s2.trans s4;rcases MS.b_inv hcd with ⟨yv,Ω3,e3,hcA⟩|⟨yv,e3,rfl⟩
      ·refine⟨J',S',H4,G,J',S',Y1,Ω2,R4',.ok yv,Ω3,e3,fun v J5 S5 H5 R5 l5 v5 r5=>?_⟩;rw[ja8,ja8] at v5;rw[ja8] at r5;have GD:G Dd=true:=(Gt Dd).mpr (.inr rfl);have h5D:H5 Dd=some (.lst zs):=R5.same Dd _ (R'.ff Dd GD) (s24 _ _ hDd);refine⟨zs,h5D,by omega,?_⟩;have hh:hid (upd H5 Dd (.lst (zs++[v]))) (un G S5)=hid H5 (un G S5):=jc1 (un_t.mpr (.inl GD));have vv:Same (hid H' (un G S')) (hid H5 (un G S5)):=(jan s24).trans v5;rcases MS.b_inv hcA with ⟨ys,Ω4,e4,hcB⟩|⟨ys,e4,rfl⟩
       ·cases hcB;refine⟨J5,S5,Y1,Ω3,done++[yv],zs++[v],.ok ys,R5.updG GD,jaq,?_,by rw[zdb];exact Nat.succ_le_succ hlen,e4,?_,?_,l'.trans l5,?_,fun b q=>R5.old b (old' b q),?_⟩
        ·rw[hh];exact ((rz.rho l5).mono vv).append (Reps.cons r5 Reps.nil)
        ·rw[hTT];show Except.ok (done++yv::ys)=Except.ok (done++[yv]++ys);rw[List.append_assoc];rfl
        ·rw[hh];exact f'.trans vv
        ·intro b o q1 q2;have nb:b≠Dd:=fun z=>by rw[z,hD] at q2;cases q2
         rw[jar nb];have hb':=sm' b o q1 q2
         cases e:S' b with
         | false=>exact R5.same b o e (s24 _ _ hb')
         | true =>
          rcases new' b e with z|z
          ·rw[z] at q1;cases q1
          ·rw[z] at q2;cases q2
        ·intro b q;rcases R5.new b q with z|z
         ·exact new' b z
         ·cases e:H1 b with
          | none=>exact .inr rfl
          | some o =>
           cases e1':S1 b with
           | true=>exact .inl rfl
           | false =>
            have:=s24 _ _ (sm' b o e1' e);rw[z] at this;cases this
       ·refine⟨J5,S5,Y1,Ω3,done++[yv],zs++[v],.error ys,R5.updG GD,jaq,?_,by rw[zdb];exact Nat.succ_le_succ hlen,e4,hTT,?_,l'.trans l5,?_,fun b q=>R5.old b (old' b q),?_⟩
        ·rw[hh];exact ((rz.rho l5).mono vv).append (Reps.cons r5 Reps.nil)
        ·rw[hh];exact f'.trans vv
        ·intro b o q1 q2;have nb:b≠Dd:=fun z=>by rw[z,hD] at q2;cases q2
         rw[jar nb];have hb':=sm' b o q1 q2
         cases e:S' b with
         | false=>exact R5.same b o e (s24 _ _ hb')
         | true =>
          rcases new' b e with z|z
          ·rw[z] at q1;cases q1
          ·rw[z] at q2;cases q2
        ·intro b q;rcases R5.new b q with z|z
         ·exact new' b z
         ·cases e:H1 b with
          | none=>exact .inr rfl
          | some o =>
           cases e1':S1 b with
           | true=>exact .inl rfl
           | false =>
            have:=s24 _ _ (sm' b o e1' e);rw[z] at this;cases this
      ·exact⟨J',S',H4,G,J',S',Y1,Ω2,R4',.error yv,_,e3,trivial⟩
     ·refine⟨J',_,un G S',Y1,.ok false,R3'.rs,e5,fun H4 s4=>iteF ?_⟩;have R4':=(R3'.mono s4).here;have s24:=s2.trans s4;refine⟨J',S',Y1,Ω2,done,zs,rr,R4',s24 _ _ hDd,rz.mono (jan s24),Nat.le_succ_of_le hlen,hcd,hTT,f'.trans (jan s24),l',fun b o q1 q2=>s24 _ _ (sm' b o q1 q2),old',new'⟩
   ·have ei:i=ds.length:=by omega
    subst ei;rw[List.drop_length] at hcd;cases hcd;have hTd:T=.ok done:=by rw[hTT];show Except.ok (done++[])=_;rw[List.append_nil]
    obtain⟨dd,g1,rfl,rfl⟩:=hfin done hTd;unfold jbi at g1;rw[if_pos (by rw[<- rz.length];exact zez hlen hz)] at g1;cases g1;have GD:G Dd=true:=(Gt Dd).mpr (.inr rfl);have nS':S' Dd=false:=R'.ff Dd GD;have le1:Same (hid H' (un G S')) (hid H' (un (fob F Z O) S')):=jek fun b q=>by
     rcases un_t.mp q with z|z
     ·exact un_t.mpr (.inl ((Gt b).mpr (.inl z)))
     ·exact un_t.mpr (.inr z)
    have sto:=R'.sto;rw[ja8] at sto;obtain⟨t1,t2⟩:=R1.call l' sm' old' new' (fun b hb=>R'.ff b ((Gt b).mpr (.inl hb))) (sto.mono (fun _ _=>rfl) le1 (jvc sto.tv le1));have vd:fob (un F S') Z O Dd=false:=by
     cases e:fob (un F S') Z O Dd with
     | false=>rfl
     | true =>
      rw[<- jft] at e;rcases un_t.mp e with z|z
      ·have h2:fob (un F S1) Z O Dd=true:=by rw[<- jft];exact un_t.mpr (.inl z)
       rw[R1.fresh hD] at h2;cases h2
      ·rw[nS'] at z;cases z
    refine .inl ⟨j2 rfl,k _ J' S' H' t1 (l1.trans l') (v1.trans t2) ?_⟩;refine rep_lst.mpr ⟨Dd,zs,rfl,SqL.of (hid_some.mpr ⟨vd,hDd⟩),rz.mono ?_⟩;rw[<- jft];exact le1
  ·rw[if_neg hz] at hfA;rcases MS.b_inv hfA with ⟨tot,Ω2,e2,_⟩|⟨y,e2,_⟩<;>cases e2
 ·exact⟨Jz,Sz,Hz,F,J,S,Y,Ω,R,.error y,_,e1,trivial⟩
end
end DL
namespace L2
open PyProof.Rows Builtin Builtin.ObjectAttr
open PySem.W (Frag InstAt Looks findIn mroIn clsIn findObj takerIn tailIn isFn)
noncomputable abbrev bmV:List Value:=[.type "ValueError",.type "Exception",.type "BaseException",.type "object"]
def xIn(K:Frag)(C:Addr):Bool:=match K.lookup C with
 | some ⟨.type "type",_,.cls cd,sl⟩=>(match cd.mro,sl.toList with
  | .ref C'::bm,[_,_,_,_,some (.builtin n),_]=>C' == C&&n == "ValueError.__new__"&&!cd.hasDel&&cd.hasDict&&tailIn K bmV bm
  | _,_=>false)
 | _=>false
inductive XAt(K:Frag)(h:Heap)(C:Addr):Prop
 | mk (bm:List Value) (N:Addr) (nm q:Str) (bs:List Value) (sn:List Str) (sub:List Value) (ab:Bool) (col:Option Bool) (dd:Option Addr) (k0 k1 k2 k3 k5:Option Value) (cd:ClassData)
  (hC:h.get? C=some (excClassObj nm q C N bs bm true sn sub ab col dd k0 k1 k2 k3 k5 "ValueError.__new__")) (T:OwnTail h bmV bm) (hk:clsIn K C=some cd) (hm:cd.mro=.ref C::bm) (hd:cd.hasDict=true) (hN:cd.ns=N)
section
variable {K:Frag}{C:Addr}
noncomputable def xNoI(K:Frag)(C:Addr):Bool:=(clsIn K C).any fun cd=>W.nsOkIn K cd.ns&&W.nsIn K cd.ns "__init__" == some none
end
end L2
namespace L2
open PyProof.Rows Builtin Builtin.ObjectAttr
open PySem.W (Frag InstAt Looks findIn mroIn clsIn findObj takerIn specialIn takesIn hasDictIn isFn)
section
end
end L2
namespace L2
open PyProof.Rows
open PySem.W (Frag InstAt Looks findIn mroIn clsIn findObj takerIn specialIn takesIn hasDictIn isFn)
structure XCls(K:Frag)(C:Addr):Prop where
 x:xIn K C=true
 sa:findIn K (.ref C) "__setattr__"=some (some (.builtin "object.__setattr__"))
 ga:findIn K (.ref C) "__getattribute__"=some (some (.builtin "BaseException.__getattribute__"))
 gh:findIn K (.ref C) "__getattr__"=some none
 cl:findIn K (.ref C) "__class__"=some (some (.builtin "object.__class__"))
 kp:W.keepIn K (.ref C)=true
section
end
structure XMk(K:Frag)(C f:Addr):Prop where
 c:XCls K C
 init:findIn K (.ref C) "__init__"=some (some (.ref f))
 fn:isFn K (.ref f)=true
section
variable {C:Addr}{x:Str}{ta:TE}
inductive tXFld(K:Frag)(ta:TE)(g:Str)(Z:St)(H:Hp)(Q:VK):Prop
 | mk (h:ta Z H fun x H1=>∃ a C dx fr fs v,x=.ref a/\H1 a=some (XO a C (some dx) fr)/\H1 dx=some (XDc dx fs)/\XCls K C/\findIn K (.ref C) g=some none/\fs.lookup g=some v/\Q v H1)
inductive XPut(K:Frag)(H:Hp)(a:Addr)(g:Str)(y:V)(Q:Hp->Prop):Prop
 | first (C:Addr) (fr:Bool) (ea:H a=some (XO a C none fr)) (c:XCls K C) (ht:takerIn K C g=some none) (q:∀ d,H d=none->Q (upd (upd H d (XDc d [(g,y)])) a (XO a C (some d) fr)))
 | more (C dx:Addr) (fr:Bool) (fs:List (Str×V)) (ea:H a=some (XO a C (some dx) fr)) (ed:H dx=some (XDc dx fs)) (c:XCls K C) (ht:takerIn K C g=some none) (l:fs.length<1000) (q:Q (upd H dx (XDc dx (putF g y fs))))
end
end L2
namespace DL
open L2
structure ErrT(K:W.Frag)(mg:qc)(cs fs:List Str)(b:Str):Prop where
 ats:∀ c∈cs,∃ C,mg c=some (.ref C)
 atb:∃ C,mg b=some (.ref C)
 cls:∀ c∈cs,∀ C,mg c=some (.ref C)->XCls K C
 fld:∀ c∈cs,∀ C,mg c=some (.ref C)->∀ f∈fs,W.findIn K (.ref C) f=some none
 pair:∀ c∈cs,∀ d∈cs,∀ C,mg c=some (.ref C)->∃ D,mg d=some (.ref D)/\W.kitOne K (.ref C) (.ref D)=some (c == d)
 base:∀ c∈cs,∀ C,mg c=some (.ref C)->∃ D,mg b=some (.ref D)/\W.kitOne K (.ref C) (.ref D)=some true
 val:∀ c∈cs,∀ C,mg c=some (.ref C)->W.kitOne K (.ref C) (.type "ValueError")=some true
 sp:W.specialIn K (.builtin "object.__class__") "__get__"=some (some (.builtin "getset_descriptor.__get__"))
 tk:W.takesIn K (.builtin "object.__class__")=some true
inductive IniY(P:Program)(w:World)(K:W.Frag)(mg:qc)(base:Heap)(k:Nat)(c:Str)(n:Nat)(sp:Sp):Prop
 | mk (C f:Addr) (fd:FuncData) (ps:List Str) (h1:ps.length=n) (h2:mg c=some (.ref C)) (h3:XMk K C f) (h4:Binds K fd ps []) (h5:FnOk P w K mg base CX0 k f fd ps sp)
structure IniXE(P:Program)(w:World)(K:W.Frag)(mg:qc)(base:Heap)(k:Nat)(c:Str)(n:Nat)(m:List D->MS D):Prop where
 ex:IniY P w K mg base k c n (spE K mg n m)
 ar:∀ ds Ω r,m ds Ω=some r->ds.length=n
 sm:n<=1000
structure IniXAt(K:W.Frag)(mg:qc)(c q:Str)(st:Stmt)(ps:List Str):Prop where
 ex:∃ C f fd,mg c=some (.ref C)/\XMk K C f/\Fun K "__init__" q st f fd/\Binds K fd ps []
section
end
section
variable {c:Str}
inductive NewAt(K:W.Frag)(mg:qc)(c:Str):Prop
 | mk (C:Addr) (h1:mg c=some (.ref C)) (h2:XCls K C) (h3:xNoI K C=true)
end
end DL
namespace DL
open PyProof.Rows L2
section
variable {Ω Ω':Sto}{cs:List Str}{f:Str}{x d:D}
inductive GetXI(cs:List Str)(f:Str)(x:D)(Ω Ω':Sto)(r:Except XD D):Prop
 | mk (i j:Nat) (c:Str) (fr:Bool) (fs:List (Str×D)) (d:D) (h1:x=.obj i) (h2:Ω[i]? = some (.exc c (some j,fr))) (h3:Ω[j]? = some (.xd fs)) (h4:c∈cs) (h5:fs.lookup f=some d) (h6:r=.ok d) (h7:Ω'=Ω)
inductive PutXI(cs:List Str)(f:Str)(x d:D)(Ω Ω':Sto)(r:Except XD Unit):Prop
 | first (i:Nat) (c:Str) (fr:Bool) (h1:x=.obj i) (h2:Ω[i]? = some (.exc c (none,fr))) (h4:c∈cs) (h6:r=.ok ()) (h7:Ω'=(Ω++[SO.xd [(f,d)]]).set i (.exc c (some Ω.length,fr)))
 | more (i j:Nat) (c:Str) (fr:Bool) (fs:List (Str×D)) (h1:x=.obj i) (h2:Ω[i]? = some (.exc c (some j,fr))) (h3:Ω[j]? = some (.xd fs)) (h4:c∈cs) (h5:fs.length<1000) (h6:r=.ok ()) (h7:Ω'=Ω.set j (.xd (putD f d fs)))
inductive IsXI(cs:List Str)(g:Str->Bool)(x:D)(Ω Ω':Sto)(r:Except XD D):Prop
 | mk (i:Nat) (c:Str) (oj:Option Nat) (fr:Bool) (h1:x=.obj i) (h2:Ω[i]? = some (.exc c (oj,fr))) (h3:∀ j,oj=some j->∃ fs,Ω[j]? = some (.xd fs)) (h4:c∈cs) (h6:r=.ok (.bl (g c))) (h7:Ω'=Ω)
end
section
end
end DL
namespace DL
open L2
noncomputable def rs1(Ω:Sto):D->Option D
 | .obj i=>match Ω[i]? with
  | some (.lst ds)=>some (.lst ds)
  | _=>none
 | d=>some d
def rsL(Ω:Sto):List D->Option (List D)
 | []=>some []
 | d::ds=>(rs1 Ω d).bind fun x=>(rsL Ω ds).map fun xs=>x::xs
def rsT(Ω:Sto):D->Option D
 | .tup ds=>(rsL Ω ds).map .tup
 | d=>rs1 Ω d
section
end
inductive NeRI(x y:D)(Ω Ω':Sto)(r:Except XD D):Prop
 | mk (x' y':D) (h1:rsT Ω x=some x') (h2:rsT Ω y=some y') (h3:(okD x'&&okD y'&&decide (depD x'<=20))=true) (h4:r=.ok (.bl !(eqB x' y'))) (h5:Ω'=Ω)
section
end
end DL
namespace L2
open PyProof.Rows
end L2
namespace DL
open L2
mutual
noncomputable def plD:D->Bool
 | .tup ds=>plL ds
 | .lst _=>false
 | .obj _=>false
 | _=>true
noncomputable def plL:List D->Bool
 | []=>true
 | d::ds=>plD d&&plL ds
end
mutual
theorem jDs{J J':Rho}{K:W.Frag}{Ha Hb:Hp}(n:∀ b xs,Rd Ha b (.tup xs)->Rd Hb b (.tup xs)):∀ {d:D} {v:V},plD d=true->Rep J K Ha d v->Rep J' K Hb d v
 | .non,_,_,h=>by unfold Rep at h |-;exact h
 | .bl _,_,_,h=>by unfold Rep at h |-;exact h
 | .int _,_,_,h=>by unfold Rep at h |-;exact h
 | .str _,_,_,h=>by unfold Rep at h |-;exact h
 | .ty _,_,_,h=>by unfold Rep at h |-;exact h
 | .obj _,_,f,_=>by unfold plD at f;cases f
 | .lst _,_,f,_=>by unfold plD at f;cases f
 | .tup ds,_,f,h=>by
  unfold plD at f;unfold Rep at h |-
  obtain⟨a,xs,q1,q2,q3⟩:=h;exact⟨a,xs,q1,q2.imp (n a xs) id,pl_reps n f q3⟩
theorem pl_reps{J J':Rho}{K:W.Frag}{Ha Hb:Hp}(n:∀ b xs,Rd Ha b (.tup xs)->Rd Hb b (.tup xs)):∀ {ds:List D} {vs:List V},plL ds=true->Reps J K Ha ds vs->Reps J' K Hb ds vs
 | [],_,_,h=>by unfold Reps at h |-;exact h
 | d::ds,_,f,h=>by
  unfold plL at f;rw[Bool.and_eq_true] at f;unfold Reps at h |-
  obtain⟨v,vs,q1,q2,q3⟩:=h;exact⟨v,vs,q1,jDs n f.1 q2,pl_reps n f.2 q3⟩
end
noncomputable def apart:List D->List D->Bool
 | [],_::_=>true
 | .tup _::_,.int _::_=>true
 | .tup a::_,.tup b::_=>a.length != b.length
 | _,_=>false
inductive OwnI(m:List D->MS D)(fl:DSt->M (List D))(Y:DSt)(Ω:Sto)(r:Except XD D)(Ω':Sto):Prop
 | nil (hs:List D) (n:Int) (s:Str) (G:Sto) (h0:Ω=[]) (h1:fl Y=some (.ok [.lst hs,.int n])) (h2:plL hs=true) (h3:m [.lst hs,.int n] []=some (.ok (.tup [.str s,.lst []]),G)) (h4:r=.ok (.tup [.str s,.lst []])) (h5:Ω'=[])
 | own (hs:List D) (n:Int) (s:Str) (G:Sto) (es:List D) (h0:Ω=[]) (h1:fl Y=some (.ok [.lst hs,.int n])) (h2:plL hs=true) (h3:m [.lst hs,.int n] []=some (.ok (.tup [.str s,.lst es]),G)) (h4:r=.ok (.tup [.str s,.obj 0])) (h5:Ω'=[.lst es]) (h6:apart hs es=true) (h7:plL es=true)
noncomputable def jzj:Option HO->Bool
 | some (.lst _)=>true
 | some (.frz _ (.lst _))=>true
 | _=>false
def hidL(F S:qf)(H:Hp)(h:Addr):qf:=fun b=>F b || (jzj (H b)&&!(S b)&&!(b == h))
section
variable {X:Cx}{O:List Nat}{o:Expr}
variable {J J':Rho}{S S' F:qf}{H H1 H':Hp}{Z:St}{G:Sto}
inductive OwnQ(X:Cx)(F S:qf)(O:List Nat)(J:Rho)(Z:St)(H:Hp)(hs:List D)(d:D)(G:Sto)(v:V)(H':Hp):Prop
 | mk (h:Addr) (xs:List V) (H1:Hp) (J':Rho) (S':qf) (s1:Same H H1) (hh:SqL X.K (hid H1 (fob (un F S) Z O)) h xs) (hr:Reps J X.K (hid H1 (fob (un F S) Z O)) hs xs)
   (sm:∀ b o,S b=false->H1 b=some o->H' b=some o) (old:∀ b,S b=true->S' b=true) (new:∀ b,S' b=true->S b=true\/H1 b=none) (sto:StoOk J' S' X.K X.mg H' (hid H' (un (hidL (fob F Z O) S H1 h) S')) G) (rv:Rep J' X.K (hid H' (un (hidL (fob F Z O) S H1 h) S')) d v)
end
end DL
namespace L2
open PyProof.Rows
end L2
namespace DL
open L2
inductive ClrI(x:D)(Ω Ω':Sto)(r:Except XD D):Prop
 | nil (h1:x=.lst []) (h2:Ω'=Ω) (h3:r=.ok .non)
 | put (h:putL (fun _=>some []) x Ω=some (r,Ω'))
section
end
end DL
namespace DL
open PyProof.Rows L2
section
end
end DL
namespace FM
noncomputable def dt(a w:List Int):Int:=((a.zip w).map fun p=>p.1*p.2).sum
@[simp] theorem jBl(w:List Int):dt [] w=0:=rfl
@[simp] theorem jFg(a:List Int):dt a []=0:=by cases a<;>rfl
@[simp] theorem dt_cons(x y:Int)(a w:List Int):dt (x::a) (y::w)=x*y+dt a w:=by simp[dt]
noncomputable def lin2(x:Int)(u:List Int)(y:Int)(v:List Int):List Int:=(u.zip v).map fun p=>x*p.1+y*p.2
@[simp] theorem jn2(x y a b:Int)(u v:List Int):lin2 x (a::u) y (b::v)=(x*a+y*b)::lin2 x u y v:=rfl
theorem jms{x y:Int}{u v:List Int}(h:u.length=v.length):(lin2 x u y v).length=v.length:=by unfold lin2;rw[zav,List.length_zip,h,Nat.min_self]
theorem jke{x y:Int}:∀ {a u v:List Int},u.length=v.length->dt a (lin2 x u y v)=x*dt a u+y*dt a v
 | [],u,v,_=>by simp
 | a::as,[],[],_=>by simp[lin2]
 | a::as,b::u,c::v,h=>by
  have ih:=jke (x:=x) (y:=y) (a:=as) (u:=u) (v:=v) (Nat.succ.inj h);rw[jn2,dt_cons,dt_cons,dt_cons,ih]
  grind
 | _::_,[],_::_,h=>by cases h
 | _::_,_::_,[],h=>by cases h
theorem lin2_get{x y:Int}:∀ {u v:List Int} (i:Nat),u.length=v.length->(lin2 x u y v).getD i 0=x*u.getD i 0+y*v.getD i 0
 | [],[],i,_=>by simp[lin2]
 | a::u,b::v,0,_=>by simp
 | a::u,b::v,i+1,h=>by
  have:=lin2_get (x:=x) (y:=y) (u:=u) (v:=v) i (Nat.succ.inj h);rw[jn2,List.getD_cons_succ,List.getD_cons_succ,List.getD_cons_succ,this]
 | [],_::_,_,h=>by cases h
 | _::_,[],_,h=>by cases h
theorem nn_get{w:List Int}(h:∀ x∈w,0<=x)(i:Nat):0<=w.getD i 0:=by
 rw[zbx]
 cases e:w[i]? with
 | none=>simp
 | some x=>exact h x (zdv e)
theorem nn_of{w:List Int}(h:∀ i,0<=w.getD i 0):∀ x∈w,0<=x:=fun x hx=>by
 obtain⟨i,hi,e⟩:=List.getElem_of_mem hx;have:=h i;rw[zbx,zax hi,e] at this;exact this
noncomputable def np(w:List Int):Nat:=w.countP fun x=>decide (0<x)
theorem jC9:∀ {u v:List Int},u.length=v.length->(∀ i,0<u.getD i 0->0<v.getD i 0)->np u<=np v
 | [],[],_,_=>zac _
 | a::u,b::v,h,hs=>by
  have ih:=jC9 (u:=u) (v:=v) (Nat.succ.inj h) fun i hi=>by simpa using hs (i+1) (by simpa using hi)
  have h0:=hs 0;simp only[List.getD_cons_zero] at h0;unfold np at *;rw[List.countP_cons,List.countP_cons]
  by_cases ha:0<a
  ·rw[if_pos (by simpa using ha),if_pos (by simpa using h0 ha)];omega
  ·rw[if_neg (by simpa using ha)];omega
 | [],_::_,h,_=>by cases h
 | _::_,[],h,_=>by cases h
theorem jzu:∀ {u v:List Int} (i:Nat),u.length=v.length->(∀ i,0<u.getD i 0->0<v.getD i 0)->¬ 0<u.getD i 0->0<v.getD i 0->np u<np v
 | [],[],i,_,_,_,h=>by simp at h
 | a::u,b::v,0,h,hs,h1,h2=>by
  have ih:=jC9 (u:=u) (v:=v) (Nat.succ.inj h) fun i hi=>by simpa using hs (i+1) (by simpa using hi)
  simp only[List.getD_cons_zero] at h1 h2;unfold np at *;rw[List.countP_cons,List.countP_cons,if_neg (by simpa using h1),if_pos (by simpa using h2)];omega
 | a::u,b::v,i+1,h,hs,h1,h2=>by
  have ih:=jzu (u:=u) (v:=v) i (Nat.succ.inj h) (fun i hi=>by simpa using hs (i+1) (by simpa using hi)) (by simpa using h1) (by simpa using h2);have h0:=hs 0;simp only[List.getD_cons_zero] at h0;unfold np at *;rw[List.countP_cons,List.countP_cons]
  by_cases ha:0<a
  ·rw[if_pos (by simpa using ha),if_pos (by simpa using h0 ha)];omega
  ·rw[if_neg (by simpa using ha)];omega
 | [],_::_,_,h,_,_,_=>by cases h
 | _::_,[],_,h,_,_,_=>by cases h
theorem jCo{v w:List Int}:∀ (is:List Nat),is≠[]->(∀ i∈is,0<w.getD i 0)->∃ i∈is,∀ l∈is,v.getD i 0*w.getD l 0<=v.getD l 0*w.getD i 0
 | [],h,_=>absurd rfl h
 | [i],_,_=>⟨i,by simp,fun l hl=>by rw[zex] at hl;rw[hl];exact Int.le_refl _⟩
 | h::j::is,_,hp=>by
  obtain⟨i,hi,hm⟩:=jCo (v:=v) (w:=w) (j::is) (by simp) fun l hl=>hp l (zaw _ hl)
  have pi:=hp i (zaw _ hi);have ph:=hp h zaa
  by_cases c:v.getD h 0*w.getD i 0<=v.getD i 0*w.getD h 0
  ·refine⟨h,zaa,fun l hl=>?_⟩;rcases List.mem_cons.mp hl with rfl|hl
   ·exact Int.le_refl _
   ·have pl:=hp l (zaw _ hl);have m:=hm l hl;have e1:v.getD h 0*w.getD i 0*w.getD l 0<=v.getD i 0*w.getD h 0*w.getD l 0:=Int.mul_le_mul_of_nonneg_right c (zcc pl);have e2:v.getD i 0*w.getD l 0*w.getD h 0<=v.getD l 0*w.getD i 0*w.getD h 0:=Int.mul_le_mul_of_nonneg_right m (zcc ph);have e3:v.getD h 0*w.getD l 0*w.getD i 0<=v.getD l 0*w.getD h 0*w.getD i 0:=by grind
    exact Int.le_of_mul_le_mul_right e3 pi
  ·refine⟨i,zaw _ hi,fun l hl=>?_⟩;rcases List.mem_cons.mp hl with rfl|hl
   ·omega
   ·exact hm l hl
end FM
namespace FM
structure Iq where
 cs:List Int
 r:Int
 s:Bool
noncomputable def col(L:List Iq)(j:Nat):List Int:=L.map fun q=>q.cs.getD j 0
noncomputable def rests(L:List Iq):List Int:=L.map (·.r)
noncomputable def strict(L:List Iq)(w:List Int):Bool:=(L.zip w).any fun p=>decide (0<p.2)&&p.1.s
def Sup(w v:List Int):Prop:=∀ i,0<w.getD i 0->0<v.getD i 0
structure InC(L:List Iq)(k:Nat)(w:List Int):Prop where
 len:w.length=L.length
 nn:∀ x∈w,0<=x
 ne:∃ i,0<w.getD i 0
 z:∀ j<k,dt (col L j) w=0
structure Gen(L:List Iq)(k:Nat)(ws:List (List Int)):Prop where
 all:∀ w∈ws,InC L k w
 gen:∀ v,InC L k v->∃ w∈ws,Sup w v
theorem jdv{L:List Iq}{w:List Int}(h:w.length=L.length):strict L w=true↔∃ i q,L[i]? = some q/\q.s=true/\0<w.getD i 0:=by
 unfold strict;rw[List.any_eq_true];constructor
 ·rintro⟨p,hp,hq⟩;obtain⟨i,hi,e⟩:=List.getElem_of_mem hp;rw[List.length_zip] at hi;rw[List.getElem_zip] at e;rw[Bool.and_eq_true,decide_eq_true_eq] at hq;have h1:i<L.length:=by omega
  have h2:i<w.length:=by omega
  refine⟨i,L[i],zax h1,?_,?_⟩
  ·rw[<- e] at hq;exact hq.2
  ·rw[<- e] at hq;rw[zbx,zax h2];exact hq.1
 ·rintro⟨i,q,hq,hs,hw⟩;obtain⟨h1,e1⟩:=zbc.mp hq;have h2:i<w.length:=by omega
  refine⟨(L[i],w[i]),?_,?_⟩
  ·have hz:i<(L.zip w).length:=by rw[List.length_zip];omega
   have:=List.getElem_mem hz;rw[List.getElem_zip] at this;exact this
  ·rw[zbx,zax h2] at hw;rw[Bool.and_eq_true,decide_eq_true_eq];exact⟨hw,by rw[e1];exact hs⟩
theorem jqg{L:List Iq}{k:Nat}{ws:List (List Int)}(G:Gen L k ws){P:List Int->Prop}(h1:∀ w∈ws,P w)
  (h2:∀ v w (a b:Int),InC L k v->InC L k w->0<a->0<b->(∀ i,a*v.getD i 0=b*w.getD i 0)->P w->P v)
  (h3:∀ v w u (a b:Int),InC L k v->InC L k w->InC L k u->0<a->0<b->u=lin2 a v (-b) w->P w->P u->P v):∀ v,InC L k v->P v:=by
 have go:∀ n v,np v<=n->InC L k v->P v:=by
  intro n
  induction n with
  | zero =>
   intro v hn hv;obtain⟨i,hi⟩:=hv.ne;exact absurd (jzu (u:=List.replicate v.length 0) (v:=v) i (by simp) (fun j hj=>by
    rw[zbx,List.getElem?_replicate] at hj
    split at hj<;>simp at hj) (by
    rw[zbx,List.getElem?_replicate]
    split<;>simp) hi) (by omega)
  | succ n ih =>
   intro v hn hv;obtain⟨w,hw,hs⟩:=G.gen v hv;have cw:=G.all w hw
   let is:=(List.range w.length).filter fun i=>decide (0<w.getD i 0)
   have his:∀ i,i∈is↔0<w.getD i 0:=fun i=>by
    simp only[is,zdx,zdc,decide_eq_true_eq];refine⟨fun h=>h.2,fun h=>⟨?_,h⟩⟩
    by_cases c:i<w.length
    ·exact c
    ·rw[zbx,List.getElem?_eq_none (by omega)] at h;simp at h
   obtain⟨i0,h0⟩:=cw.ne;obtain⟨i,hi,hm⟩:=jCo (v:=v) (w:=w) is (by intro z;have:=(his i0).mpr h0;rw[z] at this;cases this) fun i hi=>(his i).mp hi
   have wi:=(his i).mp hi;have vi:=hs i wi;have lv:v.length=w.length:=by rw[hv.len,cw.len]
   have ug:=fun l=>lin2_get (x:=w.getD i 0) (y:=-(v.getD i 0)) (u:=v) (v:=w) l lv
   have un:∀ l,0<=(lin2 (w.getD i 0) v (-(v.getD i 0)) w).getD l 0:=fun l=>by
    rw[ug];have nv:=nn_get hv.nn l
    by_cases c:0<w.getD l 0
    ·have:=hm l ((his l).mpr c)
     grind
    ·have e:w.getD l 0=0:=by have:=nn_get cw.nn l;omega
     rw[e];have:=Int.mul_nonneg (zcc wi) nv;simpa using this
   by_cases hu:∃ l,0<(lin2 (w.getD i 0) v (-(v.getD i 0)) w).getD l 0
   ·have cu:InC L k (lin2 (w.getD i 0) v (-(v.getD i 0)) w):=by
     refine⟨by rw[jms lv];exact cw.len,nn_of un,hu,fun j hj=>?_⟩;rw[jke lv,hv.z j hj,cw.z j hj];simp
    have us:∀ l,0<(lin2 (w.getD i 0) v (-(v.getD i 0)) w).getD l 0->0<v.getD l 0:=fun l hl=>by
     rw[ug] at hl;have nw:=nn_get cw.nn l;have nv:=nn_get hv.nn l
     by_cases c:0<v.getD l 0
     ·exact c
     ·have e:v.getD l 0=0:=by omega
      rw[e] at hl;have:=Int.mul_nonneg (zcc vi) nw
      grind
    have lt:=jzu (u:=lin2 (w.getD i 0) v (-(v.getD i 0)) w) (v:=v) i (by rw[jms lv,lv]) us (by rw[ug];grind) vi;exact h3 v w _ _ _ hv cw cu wi vi rfl (h1 w hw) (ih _ (by omega) cu)
   ·refine h2 v w (w.getD i 0) (v.getD i 0) hv cw wi vi (fun l=>?_) (h1 w hw);have z:(lin2 (w.getD i 0) v (-(v.getD i 0)) w).getD l 0=0:=by
     have:=un l;have n2:¬ 0<(lin2 (w.getD i 0) v (-(v.getD i 0)) w).getD l 0:=fun c=>hu ⟨l,c⟩
     omega
    rw[ug] at z
    grind
 exact fun v hv=>go (np v) v (zac _) hv
end FM
namespace FM
theorem InC.less{L:List Iq}{k:Nat}{w:List Int}(h:InC L (k+1) w):InC L k w:=⟨h.len,h.nn,h.ne,fun j hj=>h.z j (Nat.lt_succ_of_lt hj)⟩
theorem InC.more{L:List Iq}{k:Nat}{w:List Int}(h:InC L k w)(z:dt (col L k) w=0):InC L (k+1) w:=⟨h.len,h.nn,h.ne,fun j hj=>by
 rcases Nat.lt_or_ge j k with c|c
 ·exact h.z j c
 ·have:j=k:=by omega
  rw[this];exact z⟩
theorem Sup.refl(w:List Int):Sup w w:=fun _ h=>h
theorem Sup.trans{u v w:List Int}(h:Sup u v)(k:Sup v w):Sup u w:=fun i q=>k i (h i q)
theorem dt_scale{b:Int}{c:List Int}:∀ {v w:List Int} {a:Int},v.length=w.length->(∀ i,a*v.getD i 0=b*w.getD i 0)->a*dt c v=b*dt c w:=by
 induction c with
 | nil=>intro v w a _ _;simp
 | cons x c ih =>
  intro v w a hl h
  match v,w,hl with
  | [],[],_=>simp
  | y::v,z::w,hl =>
   have h0:=h 0;simp only[List.getD_cons_zero] at h0;have:=ih (v:=v) (w:=w) (a:=a) (Nat.succ.inj hl) fun i=>by simpa using h (i+1)
   rw[dt_cons,dt_cons]
   grind
theorem jyc{L:List Iq}{k:Nat}{ws:List (List Int)}(G:Gen L k ws){c:List Int}{v:List Int}(h:∀ w∈ws,Sup w v->0<dt c w):∀ u,InC L k u->Sup u v->0<dt c u:=by
 refine jqg G (P:=fun u=>Sup u v->0<dt c u) h ?_ ?_
 ·intro u w a b hu hw ha hb e hp hs;have sw:Sup w v:=fun i hi=>hs i (by
   have:=e i;have h2:0<b*w.getD i 0:=zcw hb hi;rw[<- this] at h2;exact Int.pos_of_mul_pos_right h2 ha)
  have e2:=dt_scale (c:=c) (by rw[hu.len,hw.len]) e;have h2:0<b*dt c w:=zcw hb (hp sw);rw[<- e2] at h2;exact Int.pos_of_mul_pos_right h2 ha
 ·intro u w r a b hu hw hr ha hb e hpw hpr hs;have lv:u.length=w.length:=by rw[hu.len,hw.len]
  have sw:Sup w v:=fun i hi=>hs i (by
   have:=lin2_get (x:=a) (y:=-b) (u:=u) (v:=w) i lv;rw[<- e] at this;have n:=nn_get hr.nn i;have h2:0<b*w.getD i 0:=zcw hb hi;have h3:0<a*u.getD i 0:=by grind
   exact Int.pos_of_mul_pos_right h3 ha)
  have sr:Sup r v:=fun i hi=>hs i (by
   have:=lin2_get (x:=a) (y:=-b) (u:=u) (v:=w) i lv;rw[<- e] at this;have n:=nn_get hw.nn i;have h2:0<=b*w.getD i 0:=Int.mul_nonneg (zcc hb) n;have h3:0<a*u.getD i 0:=by grind
   exact Int.pos_of_mul_pos_right h3 ha)
  have e2:dt c r=a*dt c u+-b*dt c w:=by rw[e];exact jke lv
  have h2:0<b*dt c w:=zcw hb (hpw sw);have h3:=hpr sr;have h4:0<a*dt c u:=by grind
  exact Int.pos_of_mul_pos_right h4 ha
theorem dt_neg{c:List Int}:∀ {v:List Int},dt (c.map (- ·)) v=- dt c v:=by
 induction c with
 | nil=>intro v;simp
 | cons x c ih =>
  intro v
  match v with
  | []=>simp
  | y::v=>rw[List.map_cons,dt_cons,dt_cons,ih];grind
theorem gen_step{L:List Iq}{k:Nat}{ws fs:List (List Int)}(G:Gen L k ws)(hall:∀ w∈fs,InC L (k+1) w)(hz:∀ w∈ws,dt (col L k) w=0->∃ c∈fs,Sup c w)
  (hj:∀ a∈ws,∀ b∈ws,0<dt (col L k) a->dt (col L k) b<0->∃ c∈fs,∀ i,0<c.getD i 0->0<a.getD i 0\/0<b.getD i 0):Gen L (k+1) fs:=by
 refine⟨hall,fun v hv=>?_⟩;have zv:=hv.z k (Nat.lt_succ_self k)
 by_cases c0:∃ w∈ws,Sup w v/\dt (col L k) w=0
 ·obtain⟨w,hw,hs,h0⟩:=c0;obtain⟨c,hc,hcs⟩:=hz w hw h0;exact⟨c,hc,hcs.trans hs⟩
 by_cases c1:∃ w∈ws,Sup w v/\0<dt (col L k) w
 ·by_cases c2:∃ w∈ws,Sup w v/\dt (col L k) w<0
  ·obtain⟨a,ha,sa,pa⟩:=c1;obtain⟨b,hb,sb,pb⟩:=c2;obtain⟨c,hc,hcs⟩:=hj a ha b hb pa pb;exact⟨c,hc,fun i hi=>(hcs i hi).elim (sa i) (sb i)⟩
  ·have:=jyc G (c:=col L k) (v:=v) (fun w hw hs=>by
    rcases Int.lt_trichotomy (dt (col L k) w) 0 with q|q|q
    ·exact absurd ⟨w,hw,hs,q⟩ c2
    ·exact absurd ⟨w,hw,hs,q⟩ c0
    ·exact q) v hv.less (Sup.refl v)
   omega
 ·have:=jyc G (c:=(col L k).map (- ·)) (v:=v) (fun w hw hs=>by
   rw[dt_neg];rcases Int.lt_trichotomy (dt (col L k) w) 0 with q|q|q
   ·omega
   ·exact absurd ⟨w,hw,hs,q⟩ c0
   ·exact absurd ⟨w,hw,hs,q⟩ c1) v hv.less (Sup.refl v)
  rw[dt_neg] at this;omega
theorem gen_needed{L:List Iq}{k:Nat}{fs ns:List (List Int)}(G:Gen L k fs)(h1:∀ w∈ns,w∈fs)(h2:∀ w∈fs,∃ c∈ns,Sup c w):Gen L k ns :=
 ⟨fun w hw=>G.all w (h1 w hw),fun v hv=>by
  obtain⟨w,hw,hs⟩:=G.gen v hv;obtain⟨c,hc,hcs⟩:=h2 w hw;exact⟨c,hc,hcs.trans hs⟩⟩
end FM
namespace FM
def en(t:Int)(s:Bool):Prop:=if s=true then 0<t else 0<=t
theorem jpa{t:Int}{s:Bool}(h:en t s):0<=t:=by unfold en at h;split at h<;>omega
theorem jpb{t:Int}{s:Bool}(h:0<=t)(k:s=true->0<t):en t s:=by
 unfold en;split
 ·exact k (by assumption)
 ·exact h
theorem jnt{t:Int}{s:Bool}(h:en t s)(k:s=true):0<t:=by unfold en at h;rw[if_pos k] at h;exact h
abbrev Fr:=Int×Int
noncomputable def bot:List Fr->Int
 | []=>1
 | p::pt=>p.2*bot pt
def ml:List Fr->List Int
 | []=>[]
 | p::pt=>(p.1*bot pt)::(ml pt).map (p.2*·)
def tp(cs:List Int)(r:Int)(pt:List Fr):Int:=r*bot pt+dt cs (ml pt)
def tops(L:List Iq)(k:Nat)(pt:List Fr):List Int:=L.map fun q=>tp (q.cs.drop k) q.r pt
def Good(L:List Iq)(k:Nat)(pt:List Fr):Prop:=∀ v,InC L k v->en (dt (tops L k pt) v) (strict L v)
theorem ji2{L:List Iq}{u v:List Int}(hu:u.length=L.length)(hv:v.length=L.length)(h:Sup u v)(hs:strict L u=true):strict L v=true:=by
 obtain⟨i,q,h1,h2,h3⟩:=(jdv hu).mp hs;exact (jdv hv).mpr ⟨i,q,h1,h2,h i h3⟩
theorem jth{L:List Iq}{k:Nat}{ws:List (List Int)}{τ:List Int}(G:Gen L k ws)(h:∀ w∈ws,en (dt τ w) (strict L w)):∀ v,InC L k v->en (dt τ v) (strict L v):=by
 refine jqg G (P:=fun v=>en (dt τ v) (strict L v)) h ?_ ?_
 ·intro u w a b hu hw ha hb e hp;have e2:=dt_scale (c:=τ) (by rw[hu.len,hw.len]) e;have suw:Sup u w:=fun i hi=>by
   have h2:0<a*u.getD i 0:=zcw ha hi;rw[e i] at h2;exact Int.pos_of_mul_pos_right h2 hb
  refine jpb ?_ fun hs=>?_
  ·have:0<=a*dt τ u:=by rw[e2];exact Int.mul_nonneg (zcc hb) (jpa hp)
   exact Int.nonneg_of_mul_nonneg_right this ha
  ·have:0<a*dt τ u:=by rw[e2];exact zcw hb (jnt hp (ji2 hu.len hw.len suw hs))
   exact Int.pos_of_mul_pos_right this ha
 ·intro u w r a b hu hw hr ha hb e hpw hpr;have lv:u.length=w.length:=by rw[hu.len,hw.len]
  have e2:dt τ r=a*dt τ u+-b*dt τ w:=by rw[e];exact jke lv
  have nw:=Int.mul_nonneg (zcc hb) (jpa hpw);have nr:=jpa hpr;refine jpb (Int.nonneg_of_mul_nonneg_right (a:=a) (by grind) ha) fun hs=>?_
  have:0<a*dt τ u:=by
   obtain⟨i,q,h1,h2,h3⟩:=(jdv hu.len).mp hs
   by_cases c:0<w.getD i 0
   ·have:=zcw hb (jnt hpw ((jdv hw.len).mpr ⟨i,q,h1,h2,c⟩))
    grind
   ·have cw:w.getD i 0=0:=by have:=nn_get hw.nn i;omega
    have:=lin2_get (x:=a) (y:=-b) (u:=u) (v:=w) i lv;rw[<- e,cw] at this;have h4:0<a*u.getD i 0:=zcw ha h3;have:=jnt hpr ((jdv hr.len).mpr ⟨i,q,h1,h2,by grind⟩)
    grind
  exact Int.pos_of_mul_pos_right this ha
theorem dt_mul{b:Int}:∀ {c m:List Int},dt c (m.map (b*·))=b*dt c m
 | [],m=>by simp
 | x::c,[]=>by simp
 | x::c,y::m=>by
  have:=dt_mul (b:=b) (c:=c) (m:=m);rw[List.map_cons,dt_cons,dt_cons,this]
  grind
theorem tp_cons{cs:List Int}{r:Int}{a b:Int}{pt:List Fr}(k:Nat):tp (cs.drop k) r ((a,b)::pt)=b*tp (cs.drop (k+1)) r pt+a*bot pt*cs.getD k 0:=by
 unfold tp
 by_cases c:k<cs.length
 ·rw[List.drop_eq_getElem_cons c];show r*(b*bot pt)+dt (cs[k]::cs.drop (k+1)) ((a*bot pt)::(ml pt).map (b*·))=_;rw[dt_cons,dt_mul,zbx,zax c];simp only[Option.getD_some]
  grind
 ·rw[List.drop_eq_nil_of_le (by omega),List.drop_eq_nil_of_le (by omega),zbx,List.getElem?_eq_none (by omega)];simp only[Option.getD_none,jBl];show r*(b*bot pt)+0=_
  grind
theorem tops_cons{a b:Int}{pt:List Fr}{k:Nat}:∀ {L:List Iq} {w:List Int},dt (tops L k ((a,b)::pt)) w=b*dt (tops L (k+1) pt) w+a*bot pt*dt (col L k) w
 | [],w=>by simp[tops,col]
 | q::L,[]=>by simp
 | q::L,x::w=>by
  have ih:=tops_cons (a:=a) (b:=b) (pt:=pt) (k:=k) (L:=L) (w:=w);unfold tops col at *;rw[List.map_cons,List.map_cons,List.map_cons,dt_cons,dt_cons,dt_cons,ih,tp_cons]
  grind
def fle(f g:Fr):Prop:=f.1*g.2<=g.1*f.2
def flt(f g:Fr):Prop:=f.1*g.2<g.1*f.2
theorem fle_trans{f g h:Fr}(hf:0<f.2)(hg:0<g.2)(hh:0<h.2)(x:fle f g)(y:fle g h):fle f h:=by
 unfold fle at *;have e1:=Int.mul_le_mul_of_nonneg_right x (zcc hh);have e2:=Int.mul_le_mul_of_nonneg_right y (zcc hf);have e3:f.1*h.2*g.2<=h.1*f.2*g.2:=by grind
 exact Int.le_of_mul_le_mul_right e3 hg
theorem fle_of_not{f g:Fr}(h:¬ flt f g):fle g f:=by unfold flt at h;unfold fle;omega
theorem flt_le{f g:Fr}(h:flt f g):fle f g:=by unfold flt at h;unfold fle;omega
structure BSpec(low high:Option Fr)(x:Fr):Prop where
 pos:0<x.2
 lo:∀ l,low=some l->fle l x
 hi:∀ h,high=some h->fle x h
 lo':∀ l,low=some l->¬ flt l x->∃ h,high=some h/\fle h l
 hi':∀ h,high=some h->¬ flt x h->∃ l,low=some l/\fle h l
def Bd(f:Fr)(B c t:Int):Prop:=0<f.2/\f.1*(B*c)=-t*f.2
structure Bounds(ws:List (List Int))(C τ:List Int)(B:Int)(low high:Option Fr):Prop where
 lo:∀ w∈ws,0<dt C w->∃ l f,low=some l/\Bd f B (dt C w) (dt τ w)/\fle f l
 hi:∀ w∈ws,dt C w<0->∃ h f,high=some h/\Bd f B (dt C w) (dt τ w)/\fle h f
 lo':∀ l,low=some l->∃ w∈ws,0<dt C w/\Bd l B (dt C w) (dt τ w)
 hi':∀ h,high=some h->∃ w∈ws,dt C w<0/\Bd h B (dt C w) (dt τ w)
theorem joined_in{L:List Iq}{k:Nat}{a b:List Int}(ha:InC L k a)(hb:InC L k b)(pa:0<dt (col L k) a)(pb:dt (col L k) b<0):InC L (k+1) (lin2 (-dt (col L k) b) a (dt (col L k) a) b):=by
 have lv:a.length=b.length:=by rw[ha.len,hb.len]
 have g:=fun i=>lin2_get (x:=-dt (col L k) b) (y:=dt (col L k) a) (u:=a) (v:=b) i lv
 have pb':0 < -dt (col L k) b:=by omega
 refine InC.more ⟨by rw[jms lv,hb.len],nn_of fun i=>?_,?_,fun j hj=>?_⟩ ?_
 ·rw[g];have:=Int.mul_nonneg (zcc pb') (nn_get ha.nn i);have:=Int.mul_nonneg (zcc pa) (nn_get hb.nn i);omega
 ·obtain⟨i,hi⟩:=ha.ne;refine⟨i,?_⟩;rw[g];have:=zcw pb' hi;have:=Int.mul_nonneg (zcc pa) (nn_get hb.nn i);omega
 ·rw[jke lv,ha.z j hj,hb.z j hj];simp
 ·rw[jke lv];grind
theorem jBe{f h:Fr}{B c1 c2 t1 t2:Int}(hf:Bd f B c1 t1)(hh:Bd h B c2 t2):f.2*h.2*(-c2*t1+c1*t2)=B*c1*(-c2)*(h.1*f.2-f.1*h.2):=by
 obtain⟨_,e1⟩:=hf;obtain⟨_,e2⟩:=hh;have a1:f.2*h.2*(-c2*t1)=-c2*h.2*(t1*f.2):=by grind
 have a2:f.2*h.2*(c1*t2)=c1*f.2*(t2*h.2):=by grind
 have b1:t1*f.2=-(f.1*(B*c1)):=by rw[e1];grind
 have b2:t2*h.2=-(h.1*(B*c2)):=by rw[e2];grind
 rw[Int.mul_add,a1,a2,b1,b2]
 grind
theorem jml{L:List Iq}{k:Nat}{pt:List Fr}{a b:List Int}(Gd:Good L (k+1) pt)(ha:InC L k a)(hb:InC L k b)(pa:0<dt (col L k) a)(pb:dt (col L k) b<0) :
  en (-dt (col L k) b*dt (tops L (k+1) pt) a+dt (col L k) a*dt (tops L (k+1) pt) b) (strict L a || strict L b):=by
 have lv:a.length=b.length:=by rw[ha.len,hb.len]
 have c:=joined_in ha hb pa pb;have:=Gd _ c;rw[jke lv] at this;refine jpb (jpa this) fun hs=>jnt this ?_
 have g:=fun i=>lin2_get (x:=-dt (col L k) b) (y:=dt (col L k) a) (u:=a) (v:=b) i lv
 have pb':0 < -dt (col L k) b:=by omega
 rcases Bool.or_eq_true_iff.mp hs with hs|hs
 ·refine ji2 ha.len c.len (fun i hi=>?_) hs;rw[g];have:=zcw pb' hi;have:=Int.mul_nonneg (zcc pa) (nn_get hb.nn i);omega
 ·refine ji2 hb.len c.len (fun i hi=>?_) hs;rw[g];have:=zcw pa hi;have:=Int.mul_nonneg (zcc pb') (nn_get ha.nn i);omega
theorem jvv{f h:Fr}{B c1 c2 t1 t2:Int}(hB:0<B)(hf:Bd f B c1 t1)(hh:Bd h B c2 t2)(p1:0<c1)(p2:c2<0)(e:0<=-c2*t1+c1*t2):fle f h:=by
 have k:=jBe hf hh;have q:=Int.mul_nonneg (zcc (zcw hf.1 hh.1)) e;rw[k] at q;have p:0<B*c1*(-c2):=zcw (zcw hB p1) (by omega);have:=Int.nonneg_of_mul_nonneg_right q p;unfold fle;omega
theorem jqh{f h:Fr}{B c1 c2 t1 t2:Int}(hB:0<B)(hf:Bd f B c1 t1)(hh:Bd h B c2 t2)(p1:0<c1)(p2:c2<0)(e:0 < -c2*t1+c1*t2):¬ fle h f:=by
 have k:=jBe hf hh;have q:=zcw (zcw hf.1 hh.1) e;rw[k] at q;have p:0<B*c1*(-c2):=zcw (zcw hB p1) (by omega);have:=Int.pos_of_mul_pos_right q p;unfold fle;omega
theorem jA7{f x:Fr}{B c t:Int}(hf:Bd f B c t):f.2*(x.2*t+x.1*B*c)=B*c*(x.1*f.2-f.1*x.2):=by
 obtain⟨_,e⟩:=hf;have b1:t*f.2=-(f.1*(B*c)):=by rw[e];grind
 have:f.2*(x.2*t+x.1*B*c)=x.2*(t*f.2)+f.2*(x.1*B*c):=by grind
 rw[this,b1]
 grind
theorem low_high{L:List Iq}{k:Nat}{ws:List (List Int)}{pt:List Fr}{low high:Option Fr}(G:Gen L k ws)(hB:0<bot pt)(Gd:Good L (k+1) pt)(Bs:Bounds ws (col L k) (tops L (k+1) pt) (bot pt) low high) :
  ∀ l h,low=some l->high=some h->fle l h:=fun l h el eh=>by
 obtain⟨w1,m1,p1,b1⟩:=Bs.lo' l el;obtain⟨w2,m2,p2,b2⟩:=Bs.hi' h eh;exact jvv hB b1 b2 p1 p2 (jpa (jml Gd (G.all _ m1) (G.all _ m2) p1 p2))
theorem good_step{L:List Iq}{k:Nat}{ws:List (List Int)}{pt:List Fr}{low high:Option Fr}{x:Fr}(G:Gen L k ws)(hB:0<bot pt)(Gd:Good L (k+1) pt)
  (Bs:Bounds ws (col L k) (tops L (k+1) pt) (bot pt) low high) (X:BSpec low high x):Good L k (x::pt):=by
 obtain⟨a,b⟩:=x;have hb:0<b:=X.pos;refine jth G fun w hw=>?_
 rw[tops_cons];have cw:=G.all w hw;rcases Int.lt_trichotomy (dt (col L k) w) 0 with q|q|q
 ·obtain⟨h,f,eh,bf,le⟩:=Bs.hi w hw q;have hx:=X.hi h eh;have h2:0<h.2:=by obtain⟨_,_,_,z⟩:=Bs.hi' h eh;exact z.1
  have hxf:fle (a,b) f:=fle_trans hb h2 bf.1 hx le;have k1:=jA7 (x:=(a,b)) bf;have e:b*dt (tops L (k+1) pt) w+a*bot pt*dt (col L k) w=(a,b).2*dt (tops L (k+1) pt) w+(a,b).1*bot pt*dt (col L k) w:=rfl;rw[e];have np:0<bot pt*-dt (col L k) w:=zcw hB (by omega);refine jpb (Int.nonneg_of_mul_nonneg_right (a:=f.2) ?_ bf.1) fun hs=>Int.pos_of_mul_pos_right (a:=f.2) ?_ bf.1
  ·rw[k1];have:0<=f.1*(a,b).2-(a,b).1*f.2:=by unfold fle at hxf;omega
   have:=Int.mul_nonneg (zcc np) this
   grind
  ·rw[k1]
   by_cases c:flt (a,b) f
   ·have:0<f.1*(a,b).2-(a,b).1*f.2:=by unfold flt at c;omega
    have:=zcw np this
    grind
   ·have fx:=fle_of_not c;have hf2:¬ flt (a,b) h:=fun z=>by
     have:fle h (a,b):=fle_trans h2 bf.1 hb le fx;unfold fle at this;unfold flt at z;omega
    obtain⟨l,el,hl⟩:=X.hi' h eh hf2;obtain⟨w1,m1,p1,b1⟩:=Bs.lo' l el;have:=jnt (jml Gd (G.all _ m1) cw p1 q) (by rw[hs,Bool.or_true]);refine absurd ?_ (jqh hB b1 bf p1 q this);exact fle_trans bf.1 hb b1.1 fx (fle_trans hb h2 b1.1 hx hl)
 ·rw[q,Int.mul_zero,Int.add_zero];have:=Gd w (cw.more q);exact jpb (Int.mul_nonneg (zcc hb) (jpa this)) fun hs=>zcw hb (jnt this hs)
 ·obtain⟨l,f,el,bf,le⟩:=Bs.lo w hw q;have hx:=X.lo l el;have l2:0<l.2:=by obtain⟨_,_,_,z⟩:=Bs.lo' l el;exact z.1
  have hxf:fle f (a,b):=fle_trans bf.1 l2 hb le hx;have k1:=jA7 (x:=(a,b)) bf;have e:b*dt (tops L (k+1) pt) w+a*bot pt*dt (col L k) w=(a,b).2*dt (tops L (k+1) pt) w+(a,b).1*bot pt*dt (col L k) w:=rfl;rw[e];have np:0<bot pt*dt (col L k) w:=zcw hB q;refine jpb (Int.nonneg_of_mul_nonneg_right (a:=f.2) ?_ bf.1) fun hs=>Int.pos_of_mul_pos_right (a:=f.2) ?_ bf.1
  ·rw[k1];have:0<=(a,b).1*f.2-f.1*(a,b).2:=by unfold fle at hxf;omega
   exact Int.mul_nonneg (zcc np) this
  ·rw[k1]
   by_cases c:flt f (a,b)
   ·have:0<(a,b).1*f.2-f.1*(a,b).2:=by unfold flt at c;omega
    exact zcw np this
   ·have fx:=fle_of_not c;have hf2:¬ flt l (a,b):=fun z=>by
     have:fle (a,b) l:=fle_trans hb bf.1 l2 fx le;unfold fle at this;unfold flt at z;omega
    obtain⟨h,eh,hl⟩:=X.lo' l el hf2;obtain⟨w2,m2,p2,b2⟩:=Bs.hi' h eh;have:=jnt (jml Gd cw (G.all _ m2) q p2) (by rw[hs,Bool.true_or]);refine absurd ?_ (jqh hB bf b2 q p2 this);exact fle_trans b2.1 l2 bf.1 hl (fle_trans l2 hb bf.1 hx fx)
end FM
namespace FM
theorem tp_nil{cs:List Int}{r:Int}:tp cs r []=r:=by unfold tp bot ml;simp
theorem tops_end{L:List Iq}{k:Nat}:tops L k []=rests L:=by
 unfold tops rests;exact List.map_congr_left fun q _=>tp_nil
theorem jot{L:List Iq}{w:List Int}:∀ {pt:List Fr} {k:Nat},(∀ j,k<=j->j<k+pt.length->dt (col L j) w=0)->dt (tops L k pt) w=bot pt*dt (rests L) w
 | [],k,_=>by rw[tops_end];unfold bot;simp
 | (a,b)::pt,k,h=>by
  rw[tops_cons,h k (zac k) (by simp),jot (k:=k+1) fun j h1 h2=>h j (by omega) (by simp;omega)];show _=b*bot pt*_
  grind
theorem good_end{L:List Iq}{n:Nat}{ws:List (List Int)}(G:Gen L n ws)(h:∀ w∈ws,en (dt (rests L) w) (strict L w)):Good L n []:=by
 intro v hv;rw[tops_end];exact jth G h v hv
noncomputable def unit(n i:Nat):List Int:=(List.replicate n 0).set i 1
theorem unit_len{n i:Nat}:(unit n i).length=n:=by simp[unit]
theorem unit_get{n i j:Nat}(h:i<n):(unit n i).getD j 0=if j=i then 1 else 0:=by
 unfold unit;rw[zbx,List.getElem?_set]
 by_cases c:i=j
 ·rw[if_pos c,if_pos (by simpa using h),if_pos c.symm];rfl
 ·rw[if_neg c,if_neg (fun z=>c z.symm),List.getElem?_replicate]
  split<;>rfl
theorem dt_get:∀ {a w:List Int} {i:Nat},(∀ j,w.getD j 0=if j=i then 1 else 0)->i<w.length->dt a w=a.getD i 0
 | [],w,i,_,_=>by simp
 | x::a,[],i,_,h=>by simp at h
 | x::a,y::w,0,h,_=>by
  have h0:=h 0;simp at h0;have:dt a w=0:=by
   have hz:∀ j,w.getD j 0=0:=fun j=>by
    have:=h (j+1);rw[if_neg (by omega)] at this;simpa using this
   have:=dt_scale (c:=a) (v:=w) (w:=w) (a:=1) (b:=0) rfl fun i=>by rw[hz];rfl
   grind
  rw[dt_cons,h0,this];simp
 | x::a,y::w,i+1,h,hl=>by
  have h0:=h 0;rw[if_neg (by omega)] at h0;simp only[List.getD_cons_zero] at h0;rw[dt_cons,h0,dt_get (a:=a) (w:=w) (i:=i) (fun j=>by
   have:=h (j+1);rw[List.getD_cons_succ] at this;rw[this]
   by_cases c:j=i
   ·rw[if_pos c,if_pos (by omega)]
   ·rw[if_neg c,if_neg (by omega)]) (by simpa using hl),List.getD_cons_succ]
  simp
theorem jve{L:List Iq}{i:Nat}(h:i<L.length):InC L 0 (unit L.length i) :=
 ⟨unit_len,nn_of fun j=>by rw[unit_get h];split<;>decide,⟨i,by rw[unit_get h,if_pos rfl];decide⟩,fun j hj=>absurd hj (Nat.not_lt_zero j)⟩
theorem strict_unit{L:List Iq}{i:Nat}{q:Iq}(h:L[i]? = some q):strict L (unit L.length i)=q.s:=by
 have hi:=(zbc.mp h).1;apply Bool.eq_iff_iff.mpr;rw[jdv unit_len];constructor
 ·rintro⟨j,q',h1,h2,h3⟩;rw[unit_get hi] at h3
  by_cases c:j=i
  ·subst c;rw[h] at h1;cases h1;exact h2
  ·rw[if_neg c] at h3;exact absurd h3 (by decide)
 ·intro hs;exact⟨i,q,h,hs,by rw[unit_get hi,if_pos rfl];decide⟩
theorem good_all{L:List Iq}{pt:List Fr}(G:Good L 0 pt):∀ q∈L,en (tp q.cs q.r pt) q.s:=fun q hq=>by
 obtain⟨i,hi,e⟩:=List.getElem_of_mem hq;have hg:L[i]? = some q:=by rw[zax hi,e]
 have:=G _ (jve hi);rw[strict_unit hg,dt_get (i:=i) (fun j=>unit_get hi) (by rw[unit_len];exact hi)] at this;unfold tops at this;rw[zbx,zbb,hg] at this;exact this
theorem gen_first{L:List Iq}:Gen L 0 ((List.range L.length).map (unit L.length)):=by
 refine⟨fun w hw=>?_,fun v hv=>?_⟩
 ·obtain⟨i,hi,rfl⟩:=zca.mp hw;exact jve (zdc.mp hi)
 ·obtain⟨i,hi⟩:=hv.ne;have hl:i<L.length:=by
   rw[<- hv.len]
   by_cases c:i<v.length
   ·exact c
   ·rw[zbx,List.getElem?_eq_none (by omega)] at hi;exact absurd hi (by decide)
  refine⟨_,zca.mpr ⟨i,zdc.mpr hl,rfl⟩,fun j hj=>?_⟩;rw[unit_get hl] at hj
  by_cases c:j=i
  ·rw[c];exact hi
  ·rw[if_neg c] at hj;exact absurd hj (by decide)
theorem jBx{τ:List Int}:∀ {L:List Iq} {w:List Int},τ.length=L.length->w.length=L.length->(∀ x∈w,0<=x)->(∀ i q,L[i]? = some q->en (τ.getD i 0) q.s)->0<=dt τ w/\(strict L w=true->0<dt τ w):=by
 induction τ with
 | nil =>
  intro L w h1 h2 _ _;have:L=[]:=List.eq_nil_of_length_eq_zero h1.symm;subst this;exact⟨by simp,fun h=>by simp[strict] at h⟩
 | cons t τ ih =>
  intro L w h1 h2 hn h
  match L,w,h1,h2 with
  | q::L,x::w,h1,h2 =>
   have i1:=ih (L:=L) (w:=w) (Nat.succ.inj h1) (Nat.succ.inj h2) (fun y hy=>hn y (zaw _ hy)) fun i q' e=>by simpa using h (i+1) q' (by simpa using e)
   have e0:en t q.s:=by simpa using h 0 q rfl
   have hx:=hn x zaa;rw[dt_cons];have n1:=Int.mul_nonneg (jpa e0) hx;refine⟨by omega,fun hs=>?_⟩;unfold strict at hs;rw[List.zip_cons_cons,List.any_cons,Bool.or_eq_true,Bool.and_eq_true,decide_eq_true_eq] at hs;rcases hs with ⟨a,b⟩|hs
   ·have:0<t*x:=zcw (jnt e0 b) a;omega
   ·have:=i1.2 hs;omega
theorem no_both{L:List Iq}{pt:List Fr}{w:List Int}(hB:0<bot pt)(hp:∀ q∈L,en (tp q.cs q.r pt) q.s)(hl:w.length=L.length)(hn:∀ x∈w,0<=x)(hz:∀ j,j<pt.length->dt (col L j) w=0):en (dt (rests L) w) (strict L w):=by
 have t:=jot (L:=L) (w:=w) (pt:=pt) (k:=0) fun j _ h=>hz j (by omega)
 have s:=jBx (τ:=tops L 0 pt) (L:=L) (w:=w) (by simp[tops]) hl hn fun i q e=>by
  unfold tops;rw[zbx,zbb,e];exact hp q (zdv e)
 rw[t] at s;exact jpb (Int.nonneg_of_mul_nonneg_right s.1 hB) fun h=>Int.pos_of_mul_pos_right (s.2 h) hB
noncomputable def fr(t b:Int):Fr:=let g:Int:=if b<0 then -(Int.gcd t b:Int) else (Int.gcd t b:Int);(t.fdiv g,b.fdiv g)
theorem fr_ok{t b:Int}(hb:b≠0):0<(fr t b).2/\(fr t b).1*b=t*(fr t b).2/\Int.gcd (fr t b).1 (fr t b).2=1:=by
 have g0:0<(Int.gcd t b:Int):=by
  have:=Int.gcd_pos_of_ne_zero_right t hb;omega
 obtain⟨x,hx⟩:=Int.gcd_dvd_left t b;obtain⟨y,hy⟩:=Int.gcd_dvd_right t b;have hc:Int.gcd x y=1:=by
  have:Int.gcd ((Int.gcd t b:Int)*x) ((Int.gcd t b:Int)*y)=Int.gcd t b:=by rw[<- hx,<- hy]
  rw[Int.gcd_mul_left] at this;have h2:(Int.gcd t b)*Int.gcd x y=Int.gcd t b*1:=by rw[Nat.mul_one];simpa using this
  exact Nat.eq_of_mul_eq_mul_left (by omega) h2
 unfold fr;generalize (Int.gcd t b:Int)=g at *;subst hx hy
 by_cases c:g*y<0
 ·rw[if_pos c];have yn:y<0:=by
   rcases Int.lt_or_le y 0 with z|z
   ·exact z
   ·have:=Int.mul_nonneg (zcc g0) z;omega
  have e1:(g*x).fdiv (-g)=-x:=by
   have:g*x=-g*-x:=by grind
   rw[this,Int.mul_fdiv_cancel_left _ (by omega)]
  have e2:(g*y).fdiv (-g)=-y:=by
   have:g*y=-g*-y:=by grind
   rw[this,Int.mul_fdiv_cancel_left _ (by omega)]
  simp only[e1,e2];refine⟨by omega,by grind,?_⟩;rw[Int.gcd_neg,Int.neg_gcd];exact hc
 ·rw[if_neg c];have yp:0<y:=by
   rcases Int.lt_or_le 0 y with z|z
   ·exact z
   ·have h1:=Int.mul_nonneg (zcc g0) (show 0<=-y by omega);have h2:y≠0:=fun q=>hb (by rw[q,Int.mul_zero])
    have h3:0 < -y:=by omega
    have:=zcw g0 h3;exact absurd (show g*y<0 by grind) c
  simp only[Int.mul_fdiv_cancel_left _ (show g≠0 by omega)];exact⟨yp,by grind,hc⟩
def btw:Option Fr->Option Fr->Fr
 | none,none=>(0,1)
 | none,some h=>((h.1-1).fdiv h.2,1)
 | some l,none=>(l.1.fdiv l.2+1,1)
 | some l,some h=>if (l.1.fdiv l.2+1)*h.2<h.1*1 then (l.1.fdiv l.2+1,1) else fr (l.1*h.2+h.1*l.2) (2*l.2*h.2)
theorem jtd{a b:Int}(h:0<b):a.fdiv b*b<=a/\a<(a.fdiv b+1)*b:=by
 have h1:=Int.mul_fdiv_add_fmod a b;have h2:=Int.fmod_nonneg_of_pos a h;have h3:=Int.fmod_lt_of_pos a h;constructor<;>grind
theorem btw_ok{low high:Option Fr}(hl:∀ l,low=some l->0<l.2)(hh:∀ h,high=some h->0<h.2)(hlh:∀ l h,low=some l->high=some h->fle l h):BSpec low high (btw low high)/\Int.gcd (btw low high).1 (btw low high).2=1:=by
 cases low with
 | none =>
  cases high with
  | none=>exact⟨⟨by decide,fun _ h=>(nomatch h),fun _ h=>(nomatch h),fun _ h=>(nomatch h),fun _ h=>(nomatch h)⟩,rfl⟩
  | some h =>
   have h2:=hh h rfl;have f:=(jtd (a:=h.1-1) h2).1;have lt:flt (btw none (some h)) h:=by
    show (h.1-1).fdiv h.2*h.2<h.1*1;omega
   exact⟨⟨(by decide:(0:Int)<1),fun _ h=>(nomatch h),fun h' e=>by cases e;exact flt_le lt,fun _ h=>(nomatch h),fun h' e n=>by cases e;exact absurd lt n⟩,Int.gcd_one_right _⟩
 | some l =>
  have l2:=hl l rfl;have f:=(jtd (a:=l.1) l2).2;have up:flt l (l.1.fdiv l.2+1,1):=by
   show l.1*1<(l.1.fdiv l.2+1)*l.2;omega
  cases high with
  | none=>exact⟨⟨(by decide:(0:Int)<1),fun l' e=>by cases e;exact flt_le up,fun _ h=>(nomatch h),fun l' e n=>by cases e;exact absurd up n,fun _ h=>(nomatch h)⟩,Int.gcd_one_right _⟩
  | some h =>
   have h2:=hh h rfl;unfold btw;simp only
   split
   ·have lt:flt (l.1.fdiv l.2+1,1) h:=by assumption
    exact⟨⟨(by decide:(0:Int)<1),fun l' e=>by cases e;exact flt_le up,fun h' e=>by cases e;exact flt_le lt,fun l' e n=>by cases e;exact absurd up n,fun h' e n=>by cases e;exact absurd lt n⟩,Int.gcd_one_right _⟩
   ·have le:=hlh l h rfl rfl;have b0:0<2*l.2*h.2:=zcw (zcw (by decide) l2) h2;obtain⟨q0,e,gc⟩:=fr_ok (t:=l.1*h.2+h.1*l.2) (b:=2*l.2*h.2) (by omega);generalize fr (l.1*h.2+h.1*l.2) (2*l.2*h.2)=x at *;unfold fle at le;have lx:2*l.2*h.2*(x.1*l.2-l.1*x.2)=l.2*x.2*(h.1*l.2-l.1*h.2):=by
     have:2*l.2*h.2*(x.1*l.2-l.1*x.2)=x.1*(2*l.2*h.2)*l.2-2*l.2*h.2*l.1*x.2:=by grind
     rw[this,e];grind
    have xh:2*l.2*h.2*(h.1*x.2-x.1*h.2)=h.2*x.2*(h.1*l.2-l.1*h.2):=by
     have:2*l.2*h.2*(h.1*x.2-x.1*h.2)=2*l.2*h.2*h.1*x.2-x.1*(2*l.2*h.2)*h.2:=by grind
     rw[this,e];grind
    have plx:=zcw l2 q0;have phx:=zcw h2 q0;refine⟨⟨q0,fun l' e=>?_,fun h' e=>?_,fun l' e n=>?_,fun h' e n=>?_⟩,gc⟩
    ·cases e;have:0<=2*l.2*h.2*(x.1*l.2-l.1*x.2):=by rw[lx];exact Int.mul_nonneg (zcc plx) (by omega)
     have:=Int.nonneg_of_mul_nonneg_right this b0;unfold fle;omega
    ·cases e;have:0<=2*l.2*h.2*(h.1*x.2-x.1*h.2):=by rw[xh];exact Int.mul_nonneg (zcc phx) (by omega)
     have:=Int.nonneg_of_mul_nonneg_right this b0;unfold fle;omega
    ·cases e;refine⟨h,rfl,?_⟩;unfold fle;rcases Int.lt_or_le (l.1*h.2) (h.1*l.2) with z|z
     ·have:0<2*l.2*h.2*(x.1*l.2-l.1*x.2):=by rw[lx];exact zcw plx (by omega)
      have:=Int.pos_of_mul_pos_right this b0;exact absurd (by unfold flt;omega) n
     ·exact z
    ·cases e;refine⟨l,rfl,?_⟩;unfold fle;rcases Int.lt_or_le (l.1*h.2) (h.1*l.2) with z|z
     ·have:0<2*l.2*h.2*(h.1*x.2-x.1*h.2):=by rw[xh];exact zcw phx (by omega)
      have:=Int.pos_of_mul_pos_right this b0;exact absurd (by unfold flt;omega) n
     ·exact z
end FM
namespace FM
theorem fdiv_abs{t g:Int}(h:g ∣ t)(hg:g≠0):(t.fdiv g).natAbs<=t.natAbs:=by
 obtain⟨x,rfl⟩:=h;rw[Int.mul_fdiv_cancel_left _ hg,Int.natAbs_mul];exact Nat.le_mul_of_pos_left _ (by omega)
theorem fr_abs{t b:Int}(hb:b≠0):(fr t b).1.natAbs<=t.natAbs/\(fr t b).2.natAbs<=b.natAbs:=by
 have g0:=Int.gcd_pos_of_ne_zero_right t hb;have d1:=Int.gcd_dvd_left t b;have d2:=Int.gcd_dvd_right t b;unfold fr;simp only
 split
 ·exact⟨fdiv_abs (Int.neg_dvd.mpr d1) (by omega),fdiv_abs (Int.neg_dvd.mpr d2) (by omega)⟩
 ·exact⟨fdiv_abs d1 (by omega),fdiv_abs d2 (by omega)⟩
end FM
namespace MyLaw
open L2 DL
noncomputable def top(i:Nat):Stmt:=PySem.Challenge.pw_apartbook_k28_whole_counted_rules_carry.main.body.getD i (.Pass ⟨0,0,0,0⟩)
abbrev jds:Stmt:=top 25
abbrev jim:Stmt:=top 26
abbrev jg4:Stmt:=top 29
abbrev jg5:Stmt:=top 28
abbrev jfp:Stmt:=top 30
abbrev jc4:Stmt:=top 31
abbrev jfn:Stmt:=top 32
abbrev jg3:Stmt:=top 33
abbrev jer:Stmt:=top 5
abbrev jdr:Stmt:=top 18
abbrev jg1:Stmt:=top 17
abbrev jik:Stmt:=top 16
abbrev jij:Stmt:=top 14
abbrev jg7:Stmt:=top 15
abbrev jg0:Stmt:=top 13
abbrev jdh:Stmt:=top 12
abbrev jg6:Stmt:=top 11
abbrev jdt:Stmt:=top 9
abbrev jdf:Stmt:=top 10
abbrev jin:Stmt:=top 8
abbrev jg2:Stmt:=top 7
abbrev jch:Stmt:=top 4
abbrev jc5:Stmt:=top 3
abbrev jcl:Stmt:=top 6
abbrev jfm:Stmt:=top 2
abbrev jjv:Stmt:=top 1
abbrev jil:Stmt:=top 22
abbrev jd7:Stmt:=top 23
abbrev je7:Stmt:=top 20
abbrev jgh:Stmt:=top 21
abbrev jdg:Stmt:=top 35
abbrev jd8:Stmt:=top 34
abbrev jfo:Stmt:=top 36
abbrev jfq:Stmt:=top 27
abbrev jda:Stmt:=top 37
abbrev jes:Stmt:=top 40
abbrev jp1:Stmt:=top 42
abbrev jcp(P:Program)(w:World)(K:W.Frag)(mg:qc)(base:Heap)(n:Nat)(x:Str)(t:Stmt)(N:List Str)(g:DSt->M Out):Prop:=∀ (f:Addr) (cdv:Value) (A:Around) (outer:List Env) (s:Shared) (H:Hp) (E:XK),Room n (A.deeper (PyProof.Rows.envOfC x (jae t) s.heap.objs.size f cdv))->DSs (cxOf CX0 P w K mg base N x (jae t) f cdv A outer s H E).nox [] [] [] E (jbp t) g
abbrev jrk(P:Program)(w:World)(K:W.Frag)(mg:qc)(base:Heap)(n:Nat)(x:Str)(t:Stmt)(N:List Str)(g:DSt->MS Out):Prop:=∀ (f:Addr) (cdv:Value) (A:Around) (outer:List Env) (s:Shared) (H:Hp) (E:XK),Room n (A.deeper (PyProof.Rows.envOfC x (jae t) s.heap.objs.size f cdv))->MSs (cxOf CX0 P w K mg base N x (jae t) f cdv A outer s H E).nox [] [] [] (jbp t) g
structure Txt(K:W.Frag)(mg:qc):Prop where
 f_law_cell_at:jbh K mg "_law_cell_at" jds ["_law_script","_law_k"]
 f_law_mix:jbh K mg "_law_mix" jim ["_law_cell","_law_k"]
 f_law_draw:jbh K mg "_law_draw" jg4 ["_law_script","_law_place","_law_digit","_law_k"]
 f_law_name:jbh K mg "_law_name" jg5 ["_law_script","_law_k"]
 f_law_items:jbh K mg "_law_items" jfp ["_law_script"]
 f_law_rules:jbh K mg "_law_rules" jc4 ["_law_script","_law_items_here"]
 f_law_deeds:jbh K mg "_law_deeds" jfn ["_law_script","_law_items_here"]
 f_law_book:jbh K mg "_law_book" jg3 ["_law_script"]
 f_first_rows:jbh K mg "first_rows" jer ["inequalities"]
 f_common_part:jbh K mg "common_part" jdr ["left","right"]
 f_fraction:jbh K mg "fraction" jg1 ["top","bottom"]
 f_is_less:jbh K mg "is_less" jik ["left","right"]
 f_between:jbh K mg "between" jij ["low","high"]
 f_value_at:jbh K mg "value_at" jg7 ["coefficients","rest","point"]
 f_bound_by:jbh K mg "bound_by" jg0 ["inequality","unknown","later"]
 f_number_for:jbh K mg "number_for" jdh ["rows","unknown","later"]
 f_point_by:jbh K mg "point_by" jg6 ["stages","unknowns"]
 f_places_used:jbh K mg "places_used" jdt ["weights"]
 f_is_less_of:jbh K mg "is_less_of" jdf ["some","places"]
 f_needed:jbh K mg "needed" jin ["rows"]
 f_joined:jbh K mg "joined" jg2 ["rising","falling","unknown"]
 f_weighted_sum:jbh K mg "weighted_sum" jch ["numbers","weights"]
 f_weighted:jbh K mg "weighted" jc5 ["inequalities","unknowns","weights"]
 f_taken_out:jbh K mg "taken_out" jcl ["inequalities","rows","unknown"]
 f_is_enough:jbh K mg "is_enough" jfm ["number","strict"]
 f_solved:jbh K mg "solved" jjv ["inequalities","unknowns"]
 f_kept_by:jbh K mg "kept_by" jil ["rule"]
 f_broken_by:jbh K mg "broken_by" jd7 ["rule"]
 f_needless:jbh K mg "needless" je7 ["book","others","rule"]
 f_counted:jbh K mg "counted" jgh ["book"]
 f_law_starts:jbh K mg "_law_starts" jdg ["_law_book_here"]
 f_law_spare:jbh K mg "_law_spare" jd8 ["_law_book_here","_law_rule","_law_state"]
 f_law_holds:jbh K mg "_law_holds" jfo ["_law_inequality","_law_point"]
 f_law_whole:jbh K mg "_law_whole" jfq ["_law_found"]
 f_law_is_point:jbh K mg "_law_is_point" jda ["_law_point","_law_unknowns"]
 f_law_breaks:jbh K mg "_law_breaks" jes ["_law_book_here","_law_others","_law_rule","_law_found"]
 f_law:jbh K mg "law" jp1 ["_law_script"]
 b_abs:mg "abs"=none
 b_all:mg "all"=none
 b_any:mg "any"=none
 b_bool:mg "bool"=none
 b_enumerate:mg "enumerate"=none
 b_int:mg "int"=none
 b_isinstance:mg "isinstance"=none
 b_len:mg "len"=none
 b_list:mg "list"=none
 b_range:mg "range"=none
 b_sum:mg "sum"=none
 b_tuple:mg "tuple"=none
 b_zip:mg "zip"=none
section
variable {P:Program}{w:World}{K:W.Frag}{mg:qc}{base:Heap}
theorem jll:FnScope ["_law_script","_law_k"] ["_law_script","_law_k"] (jae jds):=.m rfl rfl rfl rfl (by decide +kernel)
def jfe:DSt->M Out:=(gSeq (gIf (t2 gLt (fVar 1) (fL kLen (jac (fVar 0) fNil))) (gRet (f2 gIx (fVar 0) (fVar 1))) gNx)
  (gRet (fC (.int 0))))
def jay:List D->M D:=mir 2 2 jfe
theorem jjj(T:Txt K mg):jcp P w K mg base 1 "_law_cell_at" jds ["_law_script","_law_k"] jfe:=fun _ _ _ _ _ _ _ hr=>
 (jag (jd9 (jbc jjh jbz (jaa 1) (jaw jbf jck rfl T.b_len jdx (jab (jaa 0) jaf)) (ja3 _)) (jaj (jat (jal jah jai (jaa 0) (jaa 1)))) jbl)
  (jaj (jat jad)))
theorem jbm(T:Txt K mg):Cal P w K mg base 2 "_law_cell_at" 2 jay:=jbk T.f_law_cell_at jll (jjj T)
theorem sc_law_mix:FnScope ["_law_cell","_law_k","_law_turn","_law_number"] ["_law_cell","_law_k"] (jae jim):=.m rfl rfl rfl rfl (by decide +kernel)
def jgl:DSt->M Out:=(gSet 0 (f2 jd1 (fVar 0) (fC (.int 2147483648))))
def jkj:DSt->M Out:=(gSeq (gIf (t2 gGe (fVar 0) (f2 gPow (fC (.int 10)) (fC (.int 12)))) (gSeq (gSet 0 (f2 gSub (f2 jd1 (fVar 0) (f2 gPow (fC (.int 10)) (fC (.int 12)))) (fC (.int 1))))
  (gSeq (gFor (jca ja9 (jac (f2 gMod (fVar 1) (fC (.int 61))) fNil)) (DL.gName 2) jgl)
  (gRet (f2 gMod (fVar 0) (fC (.int 2147483648)))))) gNx)
  (gSeq (gSet 3 (f2 gMod (f2 jbj (f2 gCat (f2 gCat (f2 gMod (fVar 0) (fC (.int 1000003))) (f2 jbj (f2 jbj (fVar 1) (fVar 1)) (fC (.int 7919)))) (fVar 1)) (fC (.int 48271))) (fC (.int 2147483629))))
  (gSeq (gSet 3 (f2 gMod (f2 jbj (fVar 3) (fVar 3)) (fC (.int 2147483587))))
  (gRet (f2 jd1 (f2 gMod (f2 jbj (fVar 3) (f2 gCat (fVar 3) (fC (.int 2)))) (fC (.int 2147483579))) (fC (.int 7)))))))
def jde:List D->M D:=mir 2 4 jkj
theorem jnj(T:Txt K mg):jcp P w K mg base 1 "_law_mix" jim ["_law_cell","_law_k","_law_turn","_law_number"] jkj:=fun _ _ _ _ _ _ _ hr=>
 (jag (jd9 (jbc juj jbz (jaa 0) (jak jum jpv jad jad) (ja3 _)) (jag (jav (i:=0) sc_law_mix.nd (jak jkz jhw (jak jbn jbo (jaa 0) (jak jum jpv jad jad)) jad))
  (jag (jcd PassesOwn.never rfl (jci rfl T.b_range (jab (jak jbw jbb (jaa 1) jad) jaf)) (jau (i:=2) sc_law_mix.nd) (jaj (jav (i:=0) sc_law_mix.nd (jak jbn jbo (jaa 0) jad))))
  (jaj (jat (jak jbw jbb (jaa 0) jad))))) jbl)
  (jag (jav (i:=3) sc_law_mix.nd (jak jbw jbb (jak ja4 jas (jak ja0 ja1 (jak ja0 ja1 (jak jbw jbb (jaa 0) jad) (jak ja4 jas (jak ja4 jas (jaa 1) (jaa 1)) jad)) (jaa 1)) jad) jad))
  (jag (jav (i:=3) sc_law_mix.nd (jak jbw jbb (jak ja4 jas (jaa 3) (jaa 3)) jad))
  (jaj (jat (jak jbn jbo (jak jbw jbb (jak ja4 jas (jaa 3) (jak ja0 ja1 (jaa 3) jad)) jad) jad))))))
theorem jiy(T:Txt K mg):Cal P w K mg base 2 "_law_mix" 2 jde:=jbk T.f_law_mix sc_law_mix (jnj T)
theorem sc_law_draw:FnScope ["_law_script","_law_place","_law_digit","_law_k","_law_cell","_law_turn"] ["_law_script","_law_place","_law_digit","_law_k"] (jae jg4):=.m rfl rfl rfl rfl (by decide +kernel)
def jhe:DSt->M Out:=(gSet 4 (f2 jd1 (fVar 4) (fC (.int 1000))))
def jgr:DSt->M Out:=(gSeq (gSet 4 (ja2 jay (jac (fVar 0) (jac (fVar 1) fNil))))
  (gSeq (gIf (t2 gEq (f2 gMod (ja2 jay (jac (fVar 0) (jac (fC (.int 0)) fNil))) (fC (.int 2))) (fC (.int 0))) (gRet (ja2 jde (jac (fVar 4) (jac (fVar 3) fNil)))) gNx)
  (gSeq (gFor (jca ja9 (jac (fVar 2) fNil)) (DL.gName 5) jhe)
  (gRet (f2 gMod (fVar 4) (fC (.int 1000)))))))
def jbx:List D->M D:=mir 4 6 jgr
theorem jmb(T:Txt K mg):jcp P w K mg base 2 "_law_draw" jg4 ["_law_script","_law_place","_law_digit","_law_k","_law_cell","_law_turn"] jgr:=fun _ _ _ _ _ _ _ hr=>
 (jag (jav (i:=4) sc_law_draw.nd (jam (jbm T) (hr.m rfl) (jab (jaa 0) (jab (jaa 1) jaf))))
  (jag (jd9 (jbc (jkx (hu30 hr)) jk0 (jak jbw jbb (jam (jbm T) (hr.m rfl) (jab (jaa 0) (jab jad jaf))) jad) jad (ja3 _)) (jaj (jat (jam (jiy T) (hr.m rfl) (jab (jaa 4) (jab (jaa 3) jaf))))) jbl)
  (jag (jcd PassesOwn.never rfl (jci rfl T.b_range (jab (jaa 2) jaf)) (jau (i:=5) sc_law_draw.nd) (jaj (jav (i:=4) sc_law_draw.nd (jak jbn jbo (jaa 4) jad))))
  (jaj (jat (jak jbw jbb (jaa 4) jad))))))
theorem jd6(T:Txt K mg):Cal P w K mg base 3 "_law_draw" 4 jbx:=jbk T.f_law_draw sc_law_draw (jmb T)
theorem sc_law_name:FnScope ["_law_script","_law_k","_law_drawn"] ["_law_script","_law_k"] (jae jg5):=.m rfl rfl rfl rfl (by decide +kernel)
def jiu:DSt->M Out:=(gSeq (gSet 2 (ja2 jde (jac (ja2 jay (jac (fVar 0) (jac (fC (.int 4)) fNil))) (jac (f2 gCat (fC (.int 200)) (fVar 1)) fNil))))
  (gRet (f2 gCat (f2 jbj (f2 gIx (fC (.str "abcdefghijklmnop")) (fVar 1)) (f2 gCat (fC (.int 1)) (f2 gMod (fVar 2) (fC (.int 9))))) (f2 gIx (fC (.str "xyz")) (f2 gMod (f2 jd1 (fVar 2) (fC (.int 9))) (fC (.int 3)))))))
def jcn:List D->M D:=mir 2 3 jiu
theorem jmc(T:Txt K mg):jcp P w K mg base 2 "_law_name" jg5 ["_law_script","_law_k","_law_drawn"] jiu:=fun _ _ _ _ _ _ _ hr=>
 (jag (jav (i:=2) sc_law_name.nd (jam (jiy T) (hr.m rfl) (jab (jam (jbm T) (hr.m rfl) (jab (jaa 0) (jab jad jaf))) (jab (jak ja0 ja1 jad (jaa 1)) jaf))))
  (jaj (jat (jak ja0 ja1 (jak ja4 jas (jal jah jai ji9 (jaa 1)) (jak ja0 ja1 jad (jak jbw jbb (jaa 2) jad))) (jal jah jai ji9 (jak jbw jbb (jak jbn jbo (jaa 2) jad) jad))))))
theorem jhv(T:Txt K mg):Cal P w K mg base 3 "_law_name" 2 jcn:=jbk T.f_law_name sc_law_name (jmc T)
theorem sc_law_items:FnScope ["_law_script","_law_items_here","_law_k","_law_drawn","_law_start"] ["_law_script"] (jae jfp):=.m rfl rfl rfl rfl (by decide +kernel)
def jf0:DSt->M Out:=(gSeq (gSet 3 (ja2 jbx (jac (fVar 0) (jac (fC (.int 1)) (jac (fVar 2) (jac (f2 gCat (fC (.int 10)) (fVar 2)) fNil))))))
  (gSeq (gSet 4 (f2 gSub (f2 gMod (fVar 3) (fC (.int 41))) (fC (.int 10))))
  (gSeq (gIf (t2 gEq (f2 gMod (f2 jd1 (fVar 3) (fC (.int 41))) (fC (.int 8))) (fC (.int 1))) (gSet 4 (f2 gCat (fVar 4) (f2 gPow (fC (.int 10)) (fC (.int 25))))) gNx)
  (gApp 1 (fL jcy (jac (ja2 jcn (jac (fVar 0) (jac (fVar 2) fNil))) (jac (fVar 4) fNil)))))))
def jho:DSt->M Out:=(gSeq (gSet 1 (fL jbi fNil))
  (gSeq (gFor (jca ja9 (jac (f2 gCat (fC (.int 1)) (f2 gMod (f2 jd1 (ja2 jay (jac (fVar 0) (jac (fC (.int 0)) fNil))) (fC (.int 2))) (fC (.int 3)))) fNil)) (DL.gName 2) jf0)
  (gRet (fVar 1))))
def jfj:List D->M D:=mir 1 5 jho
theorem jld(T:Txt K mg):jcp P w K mg base 3 "_law_items" jfp ["_law_script","_law_items_here","_law_k","_law_drawn","_law_start"] jho:=fun _ _ _ _ _ _ _ hr=>
 (jag (jh4 (i:=1) sc_law_items.nd jaf)
  (jag (jcd PassesOwn.never rfl (jci rfl T.b_range (jab (jak ja0 ja1 jad (jak jbw jbb (jak jbn jbo (jam (jbm T) (hr.m rfl) (jab (jaa 0) (jab jad jaf))) jad) jad)) jaf)) (jau (i:=2) sc_law_items.nd) (jag (jav (i:=3) sc_law_items.nd (jam (jd6 T) (hr.m rfl) (jab (jaa 0) (jab jad (jab (jaa 2) (jab (jak ja0 ja1 jad (jaa 2)) jaf))))))
  (jag (jav (i:=4) sc_law_items.nd (jak jkz jhw (jak jbw jbb (jaa 3) jad) jad))
  (jag (jd9 (jbc (jkx (hu30 hr)) jk0 (jak jbw jbb (jak jbn jbo (jaa 3) jad) jad) jad (ja3 _)) (jaj (jav (i:=4) sc_law_items.nd (jak ja0 ja1 (jaa 4) (jak jum jpv jad jad)))) jbl)
  (jaj (jh3 (i:=1) rfl (jcm (jab (jam (jhv T) (hr.m rfl) (jab (jaa 0) (jab (jaa 2) jaf))) (jab (jaa 4) jaf)))))))))
  (jeu (O':=[]) (by decide) (jaj (jat (jaa 1))))))
theorem joe(T:Txt K mg):Cal P w K mg base 4 "_law_items" 1 jfj:=jbk T.f_law_items sc_law_items (jld T)
theorem sc_law_rules:FnScope ["_law_script","_law_items_here","_law_rules_here","_law_k","_law_numbers","_law_place","_law_drawn","_law_rest"] ["_law_script","_law_items_here"] (jae jc4):=.m rfl rfl rfl rfl (by decide +kernel)
def jec:DSt->M Out:=(gApp 4 (f2 gIx (fL jbi (jac (fC (.int 0)) (jac (fC (.int 1)) (jac (fC (.int 1)) (jac (f1 gNeg (fC (.int 1))) (jac (fC (.int 2)) (jac (fC (.int 0)) (jac (fC (.int 1)) (jac (f1 gNeg (fC (.int 2))) fNil))))))))) (f2 gMod (ja2 jbx (jac (fVar 0) (jac (fC (.int 2)) (jac (f2 gCat (f2 jbj (fC (.int 3)) (fVar 3)) (fVar 5)) (jac (f2 gCat (f2 gCat (fC (.int 20)) (f2 jbj (fC (.int 5)) (fVar 3))) (fVar 5)) fNil))))) (fC (.int 8)))))
def jef:DSt->M D:=(f2 gCat (fVar 0) (fVar 1))
def jeg:DSt->M D:=(f2 jbj (fVar 0) (f2 gIx (fVar 1) (fC (.int 1))))
def jf2:DSt->M Out:=(gSeq (gSet 4 (fL jbi fNil))
  (gSeq (gFor (jca ja9 (jac (fL kLen (jac (fVar 1) fNil)) fNil)) (DL.gName 5) jec)
  (gSeq (gSet 6 (ja2 jbx (jac (fVar 0) (jac (fC (.int 3)) (jac (fVar 3) (jac (f2 gCat (fC (.int 50)) (fVar 3)) fNil))))))
  (gSeq (gIf (DL.tAnd (t2 gGt (fVar 3) (fC (.int 1))) (t2 gEq (f2 gMod (fVar 6) (fC (.int 3))) (fC (.int 1)))) (gSet 4 (jce 2 [] (jca jcb (jac (f2 gIx (f2 gIx (fVar 2) (fC (.int 0))) (fC (.int 1))) (jac (f2 gIx (f2 gIx (fVar 2) (fC (.int 1))) (fC (.int 1))) fNil))) (jcq 0 1) tYes jef)) gNx)
  (gSeq (gSet 7 (f2 gSub (f2 gMod (f2 jd1 (fVar 6) (fC (.int 3))) (fC (.int 30))) (fL kSum (jac (jce 2 [] (jca jcb (jac (fVar 4) (jac (fVar 1) fNil))) (jcq 0 1) tYes jeg) fNil))))
  (gApp 2 (fL jcy (jac (ja2 jcn (jac (fVar 0) (jac (f2 gCat (fC (.int 4)) (fVar 3)) fNil))) (jac (fL kTuple (jac (fVar 4) fNil)) (jac (fVar 7) fNil))))))))))
def jhp:DSt->M Out:=(gSeq (gSet 2 (fL jbi fNil))
  (gSeq (gFor (jca ja9 (jac (f2 gCat (fC (.int 1)) (f2 gMod (f2 jd1 (ja2 jay (jac (fVar 0) (jac (fC (.int 0)) fNil))) (fC (.int 6))) (fC (.int 4)))) fNil)) (DL.gName 3) jf2)
  (gRet (fVar 2))))
def jfk:List D->M D:=mir 2 8 jhp
theorem jle(T:Txt K mg):jcp P w K mg base 3 "_law_rules" jc4 ["_law_script","_law_items_here","_law_rules_here","_law_k","_law_numbers","_law_place","_law_drawn","_law_rest"] jhp:=fun _ _ _ _ _ _ _ hr=>
 (jag (jh4 (i:=2) sc_law_rules.nd jaf)
  (jag (jcd PassesOwn.never rfl (jci rfl T.b_range (jab (jak ja0 ja1 jad (jak jbw jbb (jak jbn jbo (jam (jbm T) (hr.m rfl) (jab (jaa 0) (jab jad jaf))) jad) jad)) jaf)) (jau (i:=3) sc_law_rules.nd) (jag (jh4 (i:=4) sc_law_rules.nd jaf)
  (jag (jcd PassesOwn.never rfl (jci rfl T.b_range (jab (jaw jbf jck rfl T.b_len jdx (jab (jaa 1) jaf)) jaf)) (jau (i:=5) sc_law_rules.nd) (jaj (jh3 (i:=4) rfl (jal jah jai (jqj (jab jad (jab jad (jab jad (jab (jh2 jet jcx jad) (jab jad (jab jad (jab jad (jab (jh2 jet jcx jad) jaf))))))))) (jak jbw jbb (jam (jd6 T) (hr.m rfl) (jab (jaa 0) (jab jad (jab (jak ja0 ja1 (jak ja4 jas jad (jaa 3)) (jaa 5)) (jab (jak ja0 ja1 (jak ja0 ja1 jad (jak ja4 jas jad (jaa 3))) (jaa 5)) jaf))))) jad)))))
  (jag (jav (i:=6) sc_law_rules.nd (jam (jd6 T) (hr.m rfl) (jab (jaa 0) (jab jad (jab (jaa 3) (jab (jak ja0 ja1 jad (jaa 3)) jaf))))))
  (jag (jd9 (DW.dt (jxv (jbc jky jbz (jaa 3) jad (ja3 _)) (jtb (jbc (jkx (hu30 hr)) jk0 (jak jbw jbb (jaa 6) jad) jad (ja3 _))))) (jeu (O':=[2]) (by decide) (jaj (jo9 (i:=4) sc_law_rules.nd (own:=["_law_one","_law_other"]) (caps:=[]) rfl (jbg (N:=["_law_script","_law_items_here","_law_rules_here","_law_k","_law_numbers","_law_place","_law_drawn","_law_rest"]) (osc:=jae jc4) rfl rfl rfl (by decide +kernel)) (jja rfl T.b_zip (jab (jal jah jai (js2 2 rfl jad) jad) (jab (jal jah jai (js2 2 rfl jad) jad) jaf))) (fun _ _ _ _=>(jc0 (i:=0) (j:=1) rfl (show (["_law_one","_law_other"]:List Str).Nodup from by decide +kernel))) (fun _ _ _ _=>jb8) (fun _ _ _ _=>(jak ja0 ja1 (jaa 0) (jaa 1)))))) jbl)
  (jeu (O':=[2]) (by decide) (jag (jav (i:=7) sc_law_rules.nd (jak jkz jhw (jak jbw jbb (jak jbn jbo (jaa 6) jad) jad) (jaw (jj9 rfl) jo8 rfl T.b_sum jsq (jab (jb9 (own:=["_law_number","_law_item"]) (caps:=[]) rfl (jbg (N:=["_law_script","_law_items_here","_law_rules_here","_law_k","_law_numbers","_law_place","_law_drawn","_law_rest"]) (osc:=jae jc4) rfl rfl rfl (by decide +kernel)) (jja rfl T.b_zip (jab (jaa 4) (jab (jaa 1) jaf))) (fun _ _ _ _=>(jc0 (i:=0) (j:=1) rfl (show (["_law_number","_law_item"]:List Str).Nodup from by decide +kernel))) (fun _ _ _ _=>jb8) (fun _ _ _ _=>(jak ja4 jas (jaa 0) (jal jah jai (jaa 1) jad)))) jaf))))
  (jaj (jh3 (i:=2) rfl (jcm (jab (jam (jhv T) (hr.m rfl) (jab (jaa 0) (jab (jak ja0 ja1 jad (jaa 3)) jaf))) (jab (jez jbr jex rfl T.b_tuple jee (jab (jaa 4) jaf)) (jab (jaa 7) jaf)))))))))))))
  (jeu (O':=[]) (by decide) (jaj (jat (jaa 2))))))
theorem jof(T:Txt K mg):Cal P w K mg base 4 "_law_rules" 2 jfk:=jbk T.f_law_rules sc_law_rules (jle T)
theorem sc_law_deeds:FnScope ["_law_script","_law_items_here","_law_deeds_here","_law_k","_law_drawn","_law_low","_law_changes","_law_place","_law_some"] ["_law_script","_law_items_here"] (jae jfn):=.m rfl rfl rfl rfl (by decide +kernel)
def jeb:DSt->M Out:=(gSeq (gSet 8 (ja2 jbx (jac (fVar 0) (jac (fC (.int 5)) (jac (f2 gCat (f2 gCat (fC (.int 4)) (f2 jbj (fC (.int 3)) (fVar 3))) (fVar 7)) (jac (f2 gCat (f2 gCat (fC (.int 90)) (f2 jbj (fC (.int 5)) (fVar 3))) (fVar 7)) fNil))))))
  (gApp 6 (fL jcy (jac (f2 gIx (fL jbi (jac (fC (.int 0)) (jac (fC (.int 1)) (jac (f1 gNeg (fC (.int 1))) (jac (f1 gNeg (fC (.int 1))) (jac (fC (.int 2)) (jac (fC (.int 0)) fNil))))))) (f2 gMod (fVar 8) (fC (.int 6)))) (jac (f2 gIx (fL jbi (jac (fC (.int 0)) (jac (fC (.int 0)) (jac (fC (.int 1)) (jac (f1 gNeg (fC (.int 1))) fNil))))) (f2 gMod (f2 jd1 (fVar 8) (fC (.int 6))) (fC (.int 4)))) fNil)))))
def jf1:DSt->M Out:=(gSeq (gSet 4 (ja2 jbx (jac (fVar 0) (jac (fC (.int 5)) (jac (fVar 3) (jac (f2 gCat (fC (.int 70)) (fVar 3)) fNil))))))
  (gSeq (gSet 5 (f2 gSub (f2 gMod (fVar 4) (fC (.int 4))) (fC (.int 1))))
  (gSeq (gSet 6 (fL jbi fNil))
  (gSeq (gFor (jca ja9 (jac (fL kLen (jac (fVar 1) fNil)) fNil)) (DL.gName 7) jeb)
  (gApp 2 (fL jcy (jac (ja2 jcn (jac (fVar 0) (jac (f2 gCat (fC (.int 9)) (fVar 3)) fNil))) (jac (fVar 5) (jac (f2 gCat (fVar 5) (f2 gMod (f2 jd1 (fVar 4) (fC (.int 4))) (fC (.int 6)))) (jac (fL kTuple (jac (fVar 6) fNil)) fNil))))))))))
def jhn:DSt->M Out:=(gSeq (gSet 2 (fL jbi fNil))
  (gSeq (gFor (jca ja9 (jac (f2 gCat (fC (.int 1)) (f2 gMod (f2 jd1 (ja2 jay (jac (fVar 0) (jac (fC (.int 0)) fNil))) (fC (.int 24))) (fC (.int 4)))) fNil)) (DL.gName 3) jf1)
  (gRet (fVar 2))))
def jfi:List D->M D:=mir 2 9 jhn
theorem jlb(T:Txt K mg):jcp P w K mg base 3 "_law_deeds" jfn ["_law_script","_law_items_here","_law_deeds_here","_law_k","_law_drawn","_law_low","_law_changes","_law_place","_law_some"] jhn:=fun _ _ _ _ _ _ _ hr=>
 (jag (jh4 (i:=2) sc_law_deeds.nd jaf)
  (jag (jcd PassesOwn.never rfl (jci rfl T.b_range (jab (jak ja0 ja1 jad (jak jbw jbb (jak jbn jbo (jam (jbm T) (hr.m rfl) (jab (jaa 0) (jab jad jaf))) jad) jad)) jaf)) (jau (i:=3) sc_law_deeds.nd) (jag (jav (i:=4) sc_law_deeds.nd (jam (jd6 T) (hr.m rfl) (jab (jaa 0) (jab jad (jab (jaa 3) (jab (jak ja0 ja1 jad (jaa 3)) jaf))))))
  (jag (jav (i:=5) sc_law_deeds.nd (jak jkz jhw (jak jbw jbb (jaa 4) jad) jad))
  (jag (jh4 (i:=6) sc_law_deeds.nd jaf)
  (jag (jcd PassesOwn.never rfl (jci rfl T.b_range (jab (jaw jbf jck rfl T.b_len jdx (jab (jaa 1) jaf)) jaf)) (jau (i:=7) sc_law_deeds.nd) (jag (jav (i:=8) sc_law_deeds.nd (jam (jd6 T) (hr.m rfl) (jab (jaa 0) (jab jad (jab (jak ja0 ja1 (jak ja0 ja1 jad (jak ja4 jas jad (jaa 3))) (jaa 7)) (jab (jak ja0 ja1 (jak ja0 ja1 jad (jak ja4 jas jad (jaa 3))) (jaa 7)) jaf))))))
  (jaj (jh3 (i:=6) rfl (jcm (jab (jal jah jai (jqj (jab jad (jab jad (jab (jh2 jet jcx jad) (jab (jh2 jet jcx jad) (jab jad (jab jad jaf))))))) (jak jbw jbb (jaa 8) jad)) (jab (jal jah jai (jqj (jab jad (jab jad (jab jad (jab (jh2 jet jcx jad) jaf))))) (jak jbw jbb (jak jbn jbo (jaa 8) jad) jad)) jaf)))))))
  (jeu (O':=[2]) (by decide) (jaj (jh3 (i:=2) rfl (jcm (jab (jam (jhv T) (hr.m rfl) (jab (jaa 0) (jab (jak ja0 ja1 jad (jaa 3)) jaf))) (jab (jaa 5) (jab (jak ja0 ja1 (jaa 5) (jak jbw jbb (jak jbn jbo (jaa 4) jad) jad)) (jab (jez jbr jex rfl T.b_tuple jee (jab (jaa 6) jaf)) jaf)))))))))))))
  (jeu (O':=[]) (by decide) (jaj (jat (jaa 2))))))
theorem jod(T:Txt K mg):Cal P w K mg base 4 "_law_deeds" 2 jfi:=jbk T.f_law_deeds sc_law_deeds (jlb T)
theorem sc_law_book:FnScope ["_law_script","_law_items_here"] ["_law_script"] (jae jg3):=.m rfl rfl rfl rfl (by decide +kernel)
def jit:DSt->M Out:=(gSeq (gSet 1 (ja2 jfj (jac (fVar 0) fNil)))
  (gRet (fL jcy (jac (fVar 1) (jac (ja2 jfk (jac (fVar 0) (jac (fVar 1) fNil))) (jac (ja2 jfi (jac (fVar 0) (jac (fVar 1) fNil))) fNil))))))
def jgx:List D->M D:=mir 1 2 jit
theorem jma(T:Txt K mg):jcp P w K mg base 4 "_law_book" jg3 ["_law_script","_law_items_here"] jit:=fun _ _ _ _ _ _ _ hr=>
 (jag (jav (i:=1) sc_law_book.nd (jam (joe T) (hr.m rfl) (jab (jaa 0) jaf)))
  (jaj (jat (jcm (jab (jaa 1) (jab (jam (jof T) (hr.m rfl) (jab (jaa 0) (jab (jaa 1) jaf))) (jab (jam (jod T) (hr.m rfl) (jab (jaa 0) (jab (jaa 1) jaf))) jaf)))))))
theorem jpr(T:Txt K mg):Cal P w K mg base 5 "_law_book" 1 jgx:=jbk T.f_law_book sc_law_book (jma T)
theorem sc_first_rows:FnScope ["inequalities","rows","place","inequality","weights"] ["inequalities"] (jae jer):=.m rfl rfl rfl rfl (by decide +kernel)
def je8:DSt->M Out:=(gSeq (gSet 4 (fRep (jac (fC (.int 0)) fNil) (fL kLen (jac (fVar 0) fNil))))
  (gSeq (jtf 4 (fVar 2) (fC (.int 1)))
  (gApp 1 (fL jcy (jac (fVar 3) (jac (fVar 4) fNil))))))
def jeh:DSt->M Out:=(gSeq (gSet 1 (fL jbi fNil))
  (gSeq (gFor (jca jgo (jac (fVar 0) fNil)) (jcq 2 3) je8)
  (gRet (fVar 1))))
def jel:List D->M D:=mir 1 5 jeh
theorem jj0(T:Txt K mg):jcp P w K mg base 1 "first_rows" jer ["inequalities","rows","place","inequality","weights"] jeh:=fun _ _ _ _ _ _ _ hr=>
 (jag (jh4 (i:=1) sc_first_rows.nd jaf)
  (jag (jcd PassesOwn.never rfl (js4 rfl T.b_enumerate (jab (jaa 0) jaf)) (jc0 (i:=2) (j:=3) rfl sc_first_rows.nd) (jag (jyy (i:=4) sc_first_rows.nd (jab jad jaf) (jaw jbf jck rfl T.b_len jdx (jab (jaa 0) jaf)))
  (jag (jv2 (i:=4) rfl (jaa 2) jad)
  (jeu (O':=[1]) (by decide) (jaj (jh3 (i:=1) rfl (jcm (jab (jaa 3) (jab (jaa 4) jaf)))))))))
  (jeu (O':=[]) (by decide) (jaj (jat (jaa 1))))))
theorem jmw(T:Txt K mg):Cal P w K mg base 2 "first_rows" 1 jel:=jbk T.f_first_rows sc_first_rows (jj0 T)
theorem sc_common_part:FnScope ["left","right","rest"] ["left","right"] (jae jdr):=.m rfl rfl rfl rfl (by decide +kernel)
def jdb:DSt->M Bool:=(t2 gNe (fVar 1) (fC (.int 0)))
def jc6:DSt->M Out:=(gSeq (gSet 2 (f2 gMod (fVar 0) (fVar 1)))
  (gSeq (gSet 0 (fVar 1))
  (gSet 1 (fVar 2))))
def jdp:DSt->M Out:=(gSeq (jdm jdb jc6 FUEL)
  (gRet (fVar 0)))
def jbt:List D->M D:=mir 2 3 jdp
theorem jji(T:Txt K mg):jcp P w K mg base 1 "common_part" jdr ["left","right","rest"] jdp:=fun _ _ _ _ _ _ _ hr=>
 (jag (jql (fuel:=FUEL) PassesOwn.never (jbc (jhc (hu30 hr)) jhd (jaa 1) jad (ja3 _)) (jag (jav (i:=2) sc_common_part.nd (jak jbw jbb (jaa 0) (jaa 1)))
  (jag (jav (i:=0) sc_common_part.nd (jaa 1))
  (jaj (jav (i:=1) sc_common_part.nd (jaa 2))))))
  (jaj (jat (jaa 0))))
theorem jhb(T:Txt K mg):Cal P w K mg base 2 "common_part" 2 jbt:=jbk T.f_common_part sc_common_part (jji T)
theorem sc_fraction:FnScope ["top","bottom","common"] ["top","bottom"] (jae jg1):=.m rfl rfl rfl rfl (by decide +kernel)
def jgq:DSt->M Out:=(gSeq (gSet 2 (ja2 jbt (jac (fL kAbs (jac (fVar 0) fNil)) (jac (fL kAbs (jac (fVar 1) fNil)) fNil))))
  (gSeq (gIf (t2 gLt (fVar 1) (fC (.int 0))) (gSet 2 (f1 gNeg (fVar 2))) gNx)
  (gRet (fL jcy (jac (f2 jnw (fVar 0) (fVar 2)) (jac (f2 jnw (fVar 1) (fVar 2)) fNil))))))
def je3:List D->M D:=mir 2 3 jgq
theorem jl9(T:Txt K mg):jcp P w K mg base 2 "fraction" jg1 ["top","bottom","common"] jgq:=fun _ _ _ _ _ _ _ hr=>
 (jag (jav (i:=2) sc_fraction.nd (jam (jhb T) (hr.m rfl) (jab (jaw jmi jo7 rfl T.b_abs jsp (jab (jaa 0) jaf)) (jab (jaw jmi jo7 rfl T.b_abs jsp (jab (jaa 1) jaf)) jaf))))
  (jag (jd9 (jbc jjh jbz (jaa 1) jad (ja3 _)) (jaj (jav (i:=2) sc_fraction.nd (jh2 jet jcx (jaa 2)))) jbl)
  (jaj (jat (jcm (jab (jak jq3 joh (jaa 0) (jaa 2)) (jab (jak jq3 joh (jaa 1) (jaa 2)) jaf)))))))
theorem jku(T:Txt K mg):Cal P w K mg base 3 "fraction" 2 je3:=jbk T.f_fraction sc_fraction (jl9 T)
theorem jr9:FnScope ["left","right"] ["left","right"] (jae jik):=.m rfl rfl rfl rfl (by decide +kernel)
def jkh:DSt->M Out:=(gRet (f2 gLt (f2 jbj (f2 gIx (fVar 0) (fC (.int 0))) (f2 gIx (fVar 1) (fC (.int 1)))) (f2 jbj (f2 gIx (fVar 1) (fC (.int 0))) (f2 gIx (fVar 0) (fC (.int 1))))))
def jdd:List D->M D:=mir 2 2 jkh
theorem jnh(T:Txt K mg):jcp P w K mg base 1 "is_less" jik ["left","right"] jkh:=fun _ _ _ _ _ _ _ hr=>
 (jaj (jat (ji7 jjh jbz (jak ja4 jas (jal jah jai (jaa 0) jad) (jal jah jai (jaa 1) jad)) (jak ja4 jas (jal jah jai (jaa 1) jad) (jal jah jai (jaa 0) jad)) (ja3 _))))
theorem jix(T:Txt K mg):Cal P w K mg base 2 "is_less" 2 jdd:=jbk T.f_is_less jr9 (jnh T)
theorem sc_between:FnScope ["low","high","above"] ["low","high"] (jae jij):=.m rfl rfl rfl rfl (by decide +kernel)
def jia:DSt->M Out:=(gSeq (gIf (DL.tAnd (t2 gIs (fVar 0) (fC .non)) (t2 gIs (fVar 1) (fC .non))) (gRet (fL jcy (jac (fC (.int 0)) (jac (fC (.int 1)) fNil)))) gNx)
  (gSeq (gIf (t2 gIs (fVar 0) (fC .non)) (gRet (fL jcy (jac (f2 jd1 (f2 gSub (f2 gIx (fVar 1) (fC (.int 0))) (fC (.int 1))) (f2 gIx (fVar 1) (fC (.int 1)))) (jac (fC (.int 1)) fNil)))) gNx)
  (gSeq (gSet 2 (fL jcy (jac (f2 gCat (f2 jd1 (f2 gIx (fVar 0) (fC (.int 0))) (f2 gIx (fVar 0) (fC (.int 1)))) (fC (.int 1))) (jac (fC (.int 1)) fNil))))
  (gSeq (gIf (DL.tOr (t2 gIs (fVar 1) (fC .non)) (tTru (ja2 jdd (jac (fVar 2) (jac (fVar 1) fNil))))) (gRet (fVar 2)) gNx)
  (gRet (ja2 je3 (jac (f2 gCat (f2 jbj (f2 gIx (fVar 0) (fC (.int 0))) (f2 gIx (fVar 1) (fC (.int 1)))) (f2 jbj (f2 gIx (fVar 1) (fC (.int 0))) (f2 gIx (fVar 0) (fC (.int 1))))) (jac (f2 jbj (f2 jbj (fC (.int 2)) (f2 gIx (fVar 0) (fC (.int 1)))) (f2 gIx (fVar 1) (fC (.int 1)))) fNil))))))))
def jie:List D->M D:=mir 2 3 jia
theorem jnf(T:Txt K mg):jcp P w K mg base 3 "between" jij ["low","high","above"] jia:=fun _ _ _ _ _ _ _ hr=>
 (jag (jd9 (DW.dt (jxv (jbc jlw jlx (jaa 0) ji8 (ja3 _)) (jtb (jbc jlw jlx (jaa 1) ji8 (ja3 _))))) (jaj (jat (jcm (jab jad (jab jad jaf))))) jbl)
  (jag (jd9 (jbc jlw jlx (jaa 0) ji8 (ja3 _)) (jaj (jat (jcm (jab (jak jbn jbo (jak jkz jhw (jal jah jai (jaa 1) jad) jad) (jal jah jai (jaa 1) jad)) (jab jad jaf))))) jbl)
  (jag (jav (i:=2) sc_between.nd (jcm (jab (jak ja0 ja1 (jak jbn jbo (jal jah jai (jaa 0) jad) (jal jah jai (jaa 0) jad)) jad) (jab jad jaf))))
  (jag (jd9 (DW.dt (jmo (jbc jlw jlx (jaa 1) ji8 (ja3 _)) (jjb (je0 (jam (jix T) (hr.m rfl) (jab (jaa 2) (jab (jaa 1) jaf))))))) (jaj (jat (jaa 2))) jbl)
  (jaj (jat (jam (jku T) (hr.m rfl) (jab (jak ja0 ja1 (jak ja4 jas (jal jah jai (jaa 0) jad) (jal jah jai (jaa 1) jad)) (jak ja4 jas (jal jah jai (jaa 1) jad) (jal jah jai (jaa 0) jad))) (jab (jak ja4 jas (jak ja4 jas jad (jal jah jai (jaa 0) jad)) (jal jah jai (jaa 1) jad)) jaf)))))))))
theorem jr0(T:Txt K mg):Cal P w K mg base 4 "between" 2 jie:=jbk T.f_between sc_between (jnf T)
theorem sc_value_at:FnScope ["coefficients","rest","point","top","bottom","coefficient","number"] ["coefficients","rest","point"] (jae jg7):=.m rfl rfl rfl rfl (by decide +kernel)
def jhg:DSt->M Out:=(gSeq (gSet 3 (f2 gCat (f2 jbj (fVar 3) (f2 gIx (fVar 6) (fC (.int 1)))) (f2 jbj (f2 jbj (fVar 5) (f2 gIx (fVar 6) (fC (.int 0)))) (fVar 4))))
  (gSet 4 (f2 jbj (fVar 4) (f2 gIx (fVar 6) (fC (.int 1))))))
def jgu:DSt->M Out:=(gSeq (gSet 3 (fVar 1))
  (gSeq (gSet 4 (fC (.int 1)))
  (gSeq (gFor (jca jcb (jac (fVar 0) (jac (fVar 2) fNil))) (jcq 5 6) jhg)
  (gRet (fL jcy (jac (fVar 3) (jac (fVar 4) fNil)))))))
def jgy:List D->M D:=mir 3 7 jgu
theorem jmf(T:Txt K mg):jcp P w K mg base 1 "value_at" jg7 ["coefficients","rest","point","top","bottom","coefficient","number"] jgu:=fun _ _ _ _ _ _ _ hr=>
 (jag (jav (i:=3) sc_value_at.nd (jaa 1))
  (jag (jav (i:=4) sc_value_at.nd jad)
  (jag (jcd PassesOwn.never rfl (jja rfl T.b_zip (jab (jaa 0) (jab (jaa 2) jaf))) (jc0 (i:=5) (j:=6) rfl sc_value_at.nd) (jag (jav (i:=3) sc_value_at.nd (jak ja0 ja1 (jak ja4 jas (jaa 3) (jal jah jai (jaa 6) jad)) (jak ja4 jas (jak ja4 jas (jaa 5) (jal jah jai (jaa 6) jad)) (jaa 4))))
  (jaj (jav (i:=4) sc_value_at.nd (jak ja4 jas (jaa 4) (jal jah jai (jaa 6) jad))))))
  (jaj (jat (jcm (jab (jaa 3) (jab (jaa 4) jaf))))))))
theorem jpt(T:Txt K mg):Cal P w K mg base 2 "value_at" 3 jgy:=jbk T.f_value_at sc_value_at (jmf T)
theorem sc_bound_by:FnScope ["inequality","unknown","later","beside"] ["inequality","unknown","later"] (jae jg0):=.m rfl rfl rfl rfl (by decide +kernel)
def jgp:DSt->M Out:=(gSeq (gSet 3 (ja2 jgy (jac (fSl (f2 gIx (fVar 0) (fC (.int 0))) (jrz (f2 gCat (fVar 1) (fC (.int 1)))) jry) (jac (f2 gIx (fVar 0) (fC (.int 1))) (jac (fVar 2) fNil)))))
  (gRet (ja2 je3 (jac (f1 gNeg (f2 gIx (fVar 3) (fC (.int 0)))) (jac (f2 jbj (f2 gIx (fVar 3) (fC (.int 1))) (f2 gIx (f2 gIx (fVar 0) (fC (.int 0))) (fVar 1))) fNil)))))
def je2:List D->M D:=mir 3 4 jgp
theorem jl8(T:Txt K mg):jcp P w K mg base 3 "bound_by" jg0 ["inequality","unknown","later","beside"] jgp:=fun _ _ _ _ _ _ _ hr=>
 (jag (jav (i:=3) sc_bound_by.nd (jam (jpt T) (hr.m rfl) (jab (jqk (jal jah jai (jaa 0) jad) (js8 (jak ja0 ja1 (jaa 1) jad)) js7) (jab (jal jah jai (jaa 0) jad) (jab (jaa 2) jaf)))))
  (jaj (jat (jam (jku T) (hr.m rfl) (jab (jh2 jet jcx (jal jah jai (jaa 3) jad)) (jab (jak ja4 jas (jal jah jai (jaa 3) jad) (jal jah jai (jal jah jai (jaa 0) jad) (jaa 1))) jaf))))))
theorem jkt(T:Txt K mg):Cal P w K mg base 4 "bound_by" 3 je2:=jbk T.f_bound_by sc_bound_by (jl8 T)
theorem sc_number_for:FnScope ["rows","unknown","later","low","high","inequality","bound"] ["rows","unknown","later"] (jae jdh):=.m rfl rfl rfl rfl (by decide +kernel)
def jfd:DSt->M D:=(f2 gIx (fVar 0) (fC (.int 0)))
def jdn:DSt->M Out:=(gIf (t2 gGt (f2 gIx (f2 gIx (fVar 5) (fC (.int 0))) (fVar 1)) (fC (.int 0))) (gSeq (gSet 6 (ja2 je2 (jac (fVar 5) (jac (fVar 1) (jac (fVar 2) fNil)))))
  (gSet 3 (fIf (DL.tOr (t2 gIs (fVar 3) (fC .non)) (tTru (ja2 jdd (jac (fVar 3) (jac (fVar 6) fNil))))) (fVar 6) (fVar 3)))) (gIf (t2 gLt (f2 gIx (f2 gIx (fVar 5) (fC (.int 0))) (fVar 1)) (fC (.int 0))) (gSeq (gSet 6 (ja2 je2 (jac (fVar 5) (jac (fVar 1) (jac (fVar 2) fNil)))))
  (gSet 4 (fIf (DL.tOr (t2 gIs (fVar 4) (fC .non)) (tTru (ja2 jdd (jac (fVar 6) (jac (fVar 4) fNil))))) (fVar 6) (fVar 4)))) gNx))
def jej:DSt->M Out:=(gSeq (gSet 3 (fC .non))
  (gSeq (gSet 4 (fC .non))
  (gSeq (gFor (jcr (jce 1 [] (jcr (fVar 0)) (DL.gName 0) tYes jfd)) (DL.gName 5) jdn)
  (gRet (ja2 jie (jac (fVar 3) (jac (fVar 4) fNil)))))))
def jb3:List D->M D:=mir 3 7 jej
theorem jj4(T:Txt K mg):jcp P w K mg base 4 "number_for" jdh ["rows","unknown","later","low","high","inequality","bound"] jej:=fun _ _ _ _ _ _ _ hr=>
 (jag (jav (i:=3) sc_number_for.nd ji8)
  (jag (jav (i:=4) sc_number_for.nd ji8)
  (jag (jcd PassesOwn.never rfl (jbv (jb9 (own:=["row"]) (caps:=[]) rfl (jbg (N:=["rows","unknown","later","low","high","inequality","bound"]) (osc:=jae jdh) rfl rfl rfl (by decide +kernel)) (jbv (jaa 0)) (fun _ _ _ _=>(jau (i:=0) (show (["row"]:List Str).Nodup from by decide +kernel))) (fun _ _ _ _=>jb8) (fun _ _ _ _=>(jal jah jai (jaa 0) jad)))) (jau (i:=5) sc_number_for.nd) (jaj (jd9 (jbc jky jbz (jal jah jai (jal jah jai (jaa 5) jad) (jaa 1)) jad (ja3 _)) (jag (jav (i:=6) sc_number_for.nd (jam (jkt T) (hr.m rfl) (jab (jaa 5) (jab (jaa 1) (jab (jaa 2) jaf)))))
  (jaj (jav (i:=3) sc_number_for.nd (js1 (DW.dt (jmo (jbc jlw jlx (jaa 3) ji8 (ja3 _)) (jjb (je0 (jam (jix T) (hr.m rfl) (jab (jaa 3) (jab (jaa 6) jaf))))))) (jaa 6) (jaa 3))))) (jaj (jd9 (jbc jjh jbz (jal jah jai (jal jah jai (jaa 5) jad) (jaa 1)) jad (ja3 _)) (jag (jav (i:=6) sc_number_for.nd (jam (jkt T) (hr.m rfl) (jab (jaa 5) (jab (jaa 1) (jab (jaa 2) jaf)))))
  (jaj (jav (i:=4) sc_number_for.nd (js1 (DW.dt (jmo (jbc jlw jlx (jaa 4) ji8 (ja3 _)) (jjb (je0 (jam (jix T) (hr.m rfl) (jab (jaa 6) (jab (jaa 4) jaf))))))) (jaa 6) (jaa 4))))) jbl)))))
  (jaj (jat (jam (jr0 T) (hr.m rfl) (jab (jaa 3) (jab (jaa 4) jaf))))))))
theorem jm0(T:Txt K mg):Cal P w K mg base 5 "number_for" 3 jb3:=jbk T.f_number_for sc_number_for (jj4 T)
theorem sc_point_by:FnScope ["stages","unknowns","point","unknown"] ["stages","unknowns"] (jae jg6):=.m rfl rfl rfl rfl (by decide +kernel)
def jhf:DSt->M Out:=(gIns 2 (jv9 (ja2 jb3 (jac (f2 gIx (fVar 0) (fVar 3)) (jac (fVar 3) (jac (fVar 2) fNil))))))
def jgs:DSt->M Out:=(gSeq (gSet 2 (fL jbi fNil))
  (gSeq (gFor (jca je5 (jac (f2 gSub (fVar 1) (fC (.int 1))) (jac (f1 gNeg (fC (.int 1))) (jac (f1 gNeg (fC (.int 1))) fNil)))) (DL.gName 3) jhf)
  (gRet (fVar 2))))
def je4:List D->M D:=mir 2 4 jgs
theorem jme(T:Txt K mg):jcp P w K mg base 5 "point_by" jg6 ["stages","unknowns","point","unknown"] jgs:=fun _ _ _ _ _ _ _ hr=>
 (jag (jh4 (i:=2) sc_point_by.nd jaf)
  (jag (jcd PassesOwn.never rfl (js5 rfl T.b_range (jab (jak jkz jhw (jaa 1) jad) (jab (jh2 jet jcx jad) (jab (jh2 jet jcx jad) jaf)))) (jau (i:=3) sc_point_by.nd) (jaj (jBj (i:=2) rfl (jvy (O':=[]) (by decide) (jam (jm0 T) (hr.m rfl) (jab (jal jah jai (jaa 0) (jaa 3)) (jab (jaa 3) (jab (jaa 2) jaf))))))))
  (jeu (O':=[]) (by decide) (jaj (jat (jaa 2))))))
theorem jps(T:Txt K mg):Cal P w K mg base 6 "point_by" 2 je4:=jbk T.f_point_by sc_point_by (jme T)
theorem jlm:FnScope ["weights"] ["weights"] (jae jdt):=.m rfl rfl rfl rfl (by decide +kernel)
def jcc:DSt->M D:=(fVar 0)
def jib:DSt->M Out:=(gRet (fL kTuple (jac (jce 2 [] (jca jgo (jac (fVar 0) fNil)) (jcq 0 1) (t2 gGt (fVar 1) (fC (.int 0))) jcc) fNil)))
def jb7:List D->M D:=mir 1 1 jib
theorem jks(T:Txt K mg):CalT P w K mg base 2 "places_used" 1 jb7:=jys T.f_places_used jlm rfl T.b_tuple jvt (fun f cdv A outer s H E hr=>⟨(jb9 (own:=["place","weight"]) (caps:=[]) rfl (jbg (N:=["weights"]) (osc:=jae jdt) rfl rfl rfl (by decide +kernel)) (js4 rfl T.b_enumerate (jab (jaa 0) jaf)) (fun _ _ _ _=>(jc0 (i:=0) (j:=1) rfl (show (["place","weight"]:List Str).Nodup from by decide +kernel))) (fun _ _ _ _=>(ji6 (jbc jky jbz (jaa 1) jad (ja3 _)))) (fun _ _ _ _=>(jaa 0))),rfl,rfl⟩)
theorem jm4:FnScope ["some","places"] ["some","places"] (jae jdf):=.m rfl rfl rfl rfl (by decide +kernel)
def jfb:DSt->M D:=(f2 gIn (fVar 0) (fVar 1))
def jgb:DSt->M Out:=(gRet (fAnd (f2 gLt (fL kLen (jac (fVar 0) fNil)) (fL kLen (jac (fVar 1) fNil))) (fL kAll (jac (jce 1 [("places",1)] (jcr (fVar 0)) (DL.gName 0) tYes jfb) fNil))))
def jem:List D->M D:=mir 2 2 jgb
theorem jj1(T:Txt K mg):jcp P w K mg base 1 "is_less_of" jdf ["some","places"] jgb:=fun _ _ _ _ _ _ _ hr=>
 (jaj (jat (jqi (ji7 jjh jbz (jaw jbf jck rfl T.b_len jdx (jab (jaa 0) jaf)) (jaw jbf jck rfl T.b_len jdx (jab (jaa 1) jaf)) (ja3 _)) (jnp (jaw (jss rfl) jyr rfl T.b_all jA9 (jab (jb9 (own:=["place"]) (caps:=[("places",1)]) rfl (jbg (N:=["some","places"]) (osc:=jae jdf) rfl rfl rfl (by decide +kernel)) (jbv (jaa 0)) (fun _ _ _ _=>(jau (i:=0) (show (["place","places"]:List Str).Nodup from by decide +kernel))) (fun _ _ _ _=>jb8) (fun _ _ _ _=>(ji7 juk jDd (jaa 0) (jaa 1) rfl))) jaf))))))
theorem jmx(T:Txt K mg):Cal P w K mg base 2 "is_less_of" 2 jem:=jbk T.f_is_less_of jm4 (jj1 T)
theorem sc_needed:FnScope ["rows","by_places","row","found"] ["rows"] (jae jin):=.m rfl rfl rfl rfl (by decide +kernel)
def jhx:DSt->MS Out:=(jv5 (mSdT (lF (fVar 1)) (ja2 jb7 (jac (f2 gIx (fVar 2) (fC (.int 1))) fNil)) (lF (fVar 2))))
def jj6:DSt->M D:=(ja2 jem (jac (fVar 0) (jac (fVar 1) fNil)))
def jio:DSt->M Bool:=(DL.tNot (tTru (fL kAny (jac (jce 1 [("places",0)] (jcr (fVar 2)) (DL.gName 0) tYes jj6) fNil))))
def jhy:DSt->MS D:=(jzl (lF (fVar 1)) (lF (fVar 0)))
def jjr:DSt->MS Out:=(eSeq (eSet 1 jCw)
  (eSeq (eFor (lF (jcr (fVar 0))) (DL.gName 2) jhx)
  (eSeq (eSet 3 (fun Y=>MS.b ((jzk (lF (fVar 1)) (lF fNil)) Y) jtz))
  (eRet (jt5 1 [("by_places",1),("found",3)] (lF (jcr (fVar 3))) (DL.gName 0) jio jhy)))))
def jju:List D->MS D:=mirE 1 4 jjr
theorem jo4(T:Txt K mg):jrk P w K mg base 2 "needed" jin ["rows","by_places","row","found"] jjr:=fun _ _ _ _ _ _ _ hr=>
 (ja7 (jn5 (i:=1) sc_needed.nd jzo)
  (ja7 (jq0 PassesOwn.never rfl (jkp (jbv (jaa 0))) (jau (i:=2) sc_needed.nd) (jd5 (jzq (jCz (Nat.lt_of_le_of_lt (Nat.add_le_add_left (by decide) _) (hu30 hr)) (jhu (jaa 1)) (jyw (jks T) (hr.m rfl) (jab (jal jah jai (jaa 2) jad) jaf)) (jhu (jaa 2))))))
  (ja7 (jn5 (i:=3) sc_needed.nd (jwl rfl rfl T.b_list (jzm (jhu (jaa 1)) (jht jaf))))
  (jd5 (jya (jwk (own:=["places"]) (caps:=[("by_places",1),("found",3)]) rfl (jvo (N:=["rows","by_places","row","found"]) (osc:=jae jin) (y:="places") rfl rfl rfl (by decide +kernel) (fun _ _=>rfl) (fun _=>rfl)) (jkp (jbv (jaa 3))) (fun _ _ _ _=>(jau (i:=0) (show (["places","by_places","found"]:List Str).Nodup from by decide +kernel))) (fun _ _ _ _=>(ji6 (jh5 (je0 (jaw (jnl rfl) jsr rfl T.b_any jxr (jab (jb9 (own:=["other"]) (caps:=[("places",0)]) rfl (jbg (N:=["places","by_places","found"]) rfl rfl rfl (by kernel_rfl)) (jbv (jaa 2)) (fun _ _ _ _=>(jau (i:=0) (show (["other","places"]:List Str).Nodup from by decide +kernel))) (fun _ _ _ _=>jb8) (fun _ _ _ _=>(jam (jmx T) (hr.m rfl) (jab (jaa 0) (jab (jaa 1) jaf))))) jaf)))))) (fun _ _ _ _=>(jzn (Nat.lt_of_le_of_lt (Nat.add_le_add_left (by decide) _) (hu30 hr)) (jhu (jaa 1)) (jhu (jaa 0))))))))))
theorem juh(T:Txt K mg):CalE P w K mg base 3 "needed" 1 jju:=jj8 T.f_needed sc_needed (jo4 T)
theorem sc_joined:FnScope ["rising","falling","unknown","for_rising","for_falling","weights","common","weight"] ["rising","falling","unknown"] (jae jg2):=.m rfl rfl rfl rfl (by decide +kernel)
def jj5:DSt->M D:=(f2 gCat (f2 jbj (fVar 2) (fVar 0)) (f2 jbj (fVar 3) (fVar 1)))
def jjz:DSt->M Out:=(gSet 6 (ja2 jbt (jac (fVar 6) (jac (fVar 7) fNil))))
def jj7:DSt->M D:=(f2 jd1 (fVar 0) (fVar 1))
def jjq:DSt->M Out:=(gSeq (gSet 3 (f1 gNeg (f2 gIx (f2 gIx (f2 gIx (fVar 1) (fC (.int 0))) (fC (.int 0))) (fVar 2))))
  (gSeq (gSet 4 (f2 gIx (f2 gIx (f2 gIx (fVar 0) (fC (.int 0))) (fC (.int 0))) (fVar 2)))
  (gSeq (gSet 5 (jce 2 [("for_rising",3),("for_falling",4)] (jca jcb (jac (f2 gIx (fVar 0) (fC (.int 1))) (jac (f2 gIx (fVar 1) (fC (.int 1))) fNil))) (jcq 0 1) tYes jj5))
  (gSeq (gSet 6 (fC (.int 0)))
  (gSeq (gFor (jcr (fVar 5)) (DL.gName 7) jjz)
  (gRet (jce 1 [("common",6)] (jcr (fVar 5)) (DL.gName 0) tYes jj7)))))))
def jgw:List D->M D:=mir 3 8 jjq
theorem jo3(T:Txt K mg):jcp P w K mg base 2 "joined" jg2 ["rising","falling","unknown","for_rising","for_falling","weights","common","weight"] jjq:=fun _ _ _ _ _ _ _ hr=>
 (jag (jav (i:=3) sc_joined.nd (jh2 jet jcx (jal jah jai (jal jah jai (jal jah jai (jaa 1) jad) jad) (jaa 2))))
  (jag (jav (i:=4) sc_joined.nd (jal jah jai (jal jah jai (jal jah jai (jaa 0) jad) jad) (jaa 2)))
  (jag (jmn (i:=5) sc_joined.nd (own:=["a","b"]) (caps:=[("for_rising",3),("for_falling",4)]) rfl (jbg (N:=["rising","falling","unknown","for_rising","for_falling","weights","common","weight"]) (osc:=jae jg2) rfl rfl rfl (by decide +kernel)) (jja rfl T.b_zip (jab (jal jah jai (jaa 0) jad) (jab (jal jah jai (jaa 1) jad) jaf))) (fun _ _ _ _=>(jc0 (i:=0) (j:=1) rfl (show (["a","b","for_rising","for_falling"]:List Str).Nodup from by decide +kernel))) (fun _ _ _ _=>jb8) (fun _ _ _ _=>(jak ja0 ja1 (jak ja4 jas (jaa 2) (jaa 0)) (jak ja4 jas (jaa 3) (jaa 1)))))
  (jag (jav (i:=6) sc_joined.nd jad)
  (jag (jcd PassesOwn.never rfl (jbv (jaa 5)) (jau (i:=7) sc_joined.nd) (jaj (jav (i:=6) sc_joined.nd (jam (jhb T) (hr.m rfl) (jab (jaa 6) (jab (jaa 7) jaf))))))
  (jaj (jat (jb9 (own:=["weight"]) (caps:=[("common",6)]) rfl (jbg (N:=["rising","falling","unknown","for_rising","for_falling","weights","common","weight"]) (osc:=jae jg2) rfl rfl rfl (by decide +kernel)) (jbv (jaa 5)) (fun _ _ _ _=>(jau (i:=0) (show (["weight","common"]:List Str).Nodup from by decide +kernel))) (fun _ _ _ _=>jb8) (fun _ _ _ _=>(jak jbn jbo (jaa 0) (jaa 1)))))))))))
theorem jug(T:Txt K mg):Cal P w K mg base 3 "joined" 3 jgw:=jbk T.f_joined sc_joined (jo3 T)
theorem jk4:FnScope ["numbers","weights"] ["numbers","weights"] (jae jch):=.m rfl rfl rfl rfl (by decide +kernel)
def jdy:DSt->M D:=(f2 jbj (fVar 0) (fVar 1))
def jev:DSt->M Out:=(gRet (fL kSum (jac (jce 2 [] (jca jcb (jac (fVar 0) (jac (fVar 1) fNil))) (jcq 0 1) tYes jdy) fNil)))
def jcg:List D->M D:=mir 2 2 jev
theorem jir(T:Txt K mg):jcp P w K mg base 1 "weighted_sum" jch ["numbers","weights"] jev:=fun _ _ _ _ _ _ _ hr=>
 (jaj (jat (jaw (jj9 rfl) jo8 rfl T.b_sum jsq (jab (jb9 (own:=["number","weight"]) (caps:=[]) rfl (jbg (N:=["numbers","weights"]) (osc:=jae jch) rfl rfl rfl (by decide +kernel)) (jja rfl T.b_zip (jab (jaa 0) (jab (jaa 1) jaf))) (fun _ _ _ _=>(jc0 (i:=0) (j:=1) rfl (show (["number","weight"]:List Str).Nodup from by decide +kernel))) (fun _ _ _ _=>jb8) (fun _ _ _ _=>(jak ja4 jas (jaa 0) (jaa 1)))) jaf))))
theorem jge(T:Txt K mg):Cal P w K mg base 2 "weighted_sum" 2 jcg:=jbk T.f_weighted_sum jk4 (jir T)
theorem sc_weighted:FnScope ["inequalities","unknowns","weights","coefficients","unknown","rest","strict"] ["inequalities","unknowns","weights"] (jae jc5):=.m rfl rfl rfl rfl (by decide +kernel)
def jhi:DSt->M D:=(f2 gIx (f2 gIx (fVar 0) (fC (.int 0))) (fVar 1))
def jfa:DSt->M Out:=(gApp 3 (ja2 jcg (jac (jce 1 [("unknown",4)] (jcr (fVar 0)) (DL.gName 0) tYes jhi) (jac (fVar 2) fNil))))
def jhj:DSt->M D:=(f2 gIx (fVar 0) (fC (.int 1)))
def jhk:DSt->M D:=(fAnd (f2 gGt (fVar 1) (fC (.int 0))) (f2 gIx (fVar 0) (fC (.int 2))))
def je1:DSt->M Out:=(gSeq (gSet 3 (fL jbi fNil))
  (gSeq (gFor (jca ja9 (jac (fVar 1) fNil)) (DL.gName 4) jfa)
  (gSeq (gSet 5 (ja2 jcg (jac (jce 1 [] (jcr (fVar 0)) (DL.gName 0) tYes jhj) (jac (fVar 2) fNil))))
  (gSeq (gSet 6 (fL kAny (jac (jce 2 [] (jca jcb (jac (fVar 0) (jac (fVar 2) fNil))) (jcq 0 1) tYes jhk) fNil)))
  (gRet (fL jcy (jac (fL kTuple (jac (fVar 3) fNil)) (jac (fVar 5) (jac (fVar 6) fNil)))))))))
def jgz:List D->M D:=mir 3 7 je1
theorem jmg(T:Txt K mg):jcp P w K mg base 2 "weighted" jc5 ["inequalities","unknowns","weights","coefficients","unknown","rest","strict"] je1:=fun _ _ _ _ _ _ _ hr=>
 (jag (jh4 (i:=3) sc_weighted.nd jaf)
  (jag (jcd PassesOwn.never rfl (jci rfl T.b_range (jab (jaa 1) jaf)) (jau (i:=4) sc_weighted.nd) (jaj (jh3 (i:=3) rfl (jam (jge T) (hr.m rfl) (jab (jb9 (own:=["inequality"]) (caps:=[("unknown",4)]) rfl (jbg (N:=["inequalities","unknowns","weights","coefficients","unknown","rest","strict"]) (osc:=jae jc5) rfl rfl rfl (by decide +kernel)) (jbv (jaa 0)) (fun _ _ _ _=>(jau (i:=0) (show (["inequality","unknown"]:List Str).Nodup from by decide +kernel))) (fun _ _ _ _=>jb8) (fun _ _ _ _=>(jal jah jai (jal jah jai (jaa 0) jad) (jaa 1)))) (jab (jaa 2) jaf))))))
  (jag (jav (i:=5) sc_weighted.nd (jam (jge T) (hr.m rfl) (jab (jb9 (own:=["inequality"]) (caps:=[]) rfl (jbg (N:=["inequalities","unknowns","weights","coefficients","unknown","rest","strict"]) (osc:=jae jc5) rfl rfl rfl (by decide +kernel)) (jbv (jaa 0)) (fun _ _ _ _=>(jau (i:=0) (show (["inequality"]:List Str).Nodup from by decide +kernel))) (fun _ _ _ _=>jb8) (fun _ _ _ _=>(jal jah jai (jaa 0) jad))) (jab (jaa 2) jaf))))
  (jag (jav (i:=6) sc_weighted.nd (jaw (jnl rfl) jsr rfl T.b_any jxr (jab (jb9 (own:=["inequality","weight"]) (caps:=[]) rfl (jbg (N:=["inequalities","unknowns","weights","coefficients","unknown","rest","strict"]) (osc:=jae jc5) rfl rfl rfl (by decide +kernel)) (jja rfl T.b_zip (jab (jaa 0) (jab (jaa 2) jaf))) (fun _ _ _ _=>(jc0 (i:=0) (j:=1) rfl (show (["inequality","weight"]:List Str).Nodup from by decide +kernel))) (fun _ _ _ _=>jb8) (fun _ _ _ _=>(jqi (ji7 jky jbz (jaa 1) jad (ja3 _)) (jnp (jal jah jai (jaa 0) jad))))) jaf)))
  (jeu (O':=[]) (by decide) (jaj (jat (jcm (jab (jez jbr jex rfl T.b_tuple jee (jab (jaa 3) jaf)) (jab (jaa 5) (jab (jaa 6) jaf)))))))))))
theorem jpu(T:Txt K mg):Cal P w K mg base 3 "weighted" 3 jgz:=jbk T.f_weighted sc_weighted (jmg T)
theorem sc_taken_out:FnScope ["inequalities","rows","unknown","found","rising","falling","weights"] ["inequalities","rows","unknown"] (jae jcl):=.m rfl rfl rfl rfl (by decide +kernel)
def ji3:DSt->M D:=(fVar 0)
def ji4:DSt->M D:=(fVar 0)
def ji5:DSt->M D:=(fVar 0)
def jed:DSt->M Out:=(gSeq (gSet 6 (ja2 jgw (jac (fVar 4) (jac (fVar 5) (jac (fVar 2) fNil)))))
  (gApp 3 (fL jcy (jac (ja2 jgz (jac (fVar 0) (jac (fL kLen (jac (f2 gIx (f2 gIx (fVar 4) (fC (.int 0))) (fC (.int 0))) fNil)) (jac (fVar 6) fNil)))) (jac (fVar 6) fNil)))))
def jf3:DSt->M Out:=(gFor (jcr (jce 1 [("unknown",2)] (jcr (fVar 1)) (DL.gName 0) (t2 gLt (f2 gIx (f2 gIx (f2 gIx (fVar 0) (fC (.int 0))) (fC (.int 0))) (fVar 1)) (fC (.int 0))) ji5)) (DL.gName 5) jed)
def jfg:DSt->MS Out:=(eSeq (lF (gSet 3 (jce 1 [("unknown",2)] (jcr (fVar 1)) (DL.gName 0) (t2 gEq (f2 gIx (f2 gIx (f2 gIx (fVar 0) (fC (.int 0))) (fC (.int 0))) (fVar 1)) (fC (.int 0))) ji3)))
  (eSeq (lF (gFor (jcr (jce 1 [("unknown",2)] (jcr (fVar 1)) (DL.gName 0) (t2 gGt (f2 gIx (f2 gIx (f2 gIx (fVar 0) (fC (.int 0))) (fC (.int 0))) (fVar 1)) (fC (.int 0))) ji4)) (DL.gName 4) jf3))
  (eRet (jid jju (lF (jac (fVar 3) fNil))))))
def jd4:List D->MS D:=mirE 3 7 jfg
theorem jlh(T:Txt K mg):jrk P w K mg base 3 "taken_out" jcl ["inequalities","rows","unknown","found","rising","falling","weights"] jfg:=fun _ _ _ _ _ _ _ hr=>
 (ja7 (jbu (jo9 (i:=3) sc_taken_out.nd (own:=["row"]) (caps:=[("unknown",2)]) rfl (jbg (N:=["inequalities","rows","unknown","found","rising","falling","weights"]) (osc:=jae jcl) rfl rfl rfl (by decide +kernel)) (jbv (jaa 1)) (fun _ _ _ _=>(jau (i:=0) (show (["row","unknown"]:List Str).Nodup from by decide +kernel))) (fun _ _ _ _=>(ji6 (jbc (jkx (hu30 hr)) jk0 (jal jah jai (jal jah jai (jal jah jai (jaa 0) jad) jad) (jaa 1)) jad (ja3 _)))) (fun _ _ _ _=>(jaa 0))))
  (ja7 (jbu (jcd PassesOwn.never rfl (jbv (jb9 (own:=["row"]) (caps:=[("unknown",2)]) rfl (jbg (N:=["inequalities","rows","unknown","found","rising","falling","weights"]) (osc:=jae jcl) rfl rfl rfl (by decide +kernel)) (jbv (jaa 1)) (fun _ _ _ _=>(jau (i:=0) (show (["row","unknown"]:List Str).Nodup from by decide +kernel))) (fun _ _ _ _=>(ji6 (jbc jky jbz (jal jah jai (jal jah jai (jal jah jai (jaa 0) jad) jad) (jaa 1)) jad (ja3 _)))) (fun _ _ _ _=>(jaa 0)))) (jau (i:=4) sc_taken_out.nd) (jaj (jcd PassesOwn.never rfl (jbv (jb9 (own:=["row"]) (caps:=[("unknown",2)]) rfl (jbg (N:=["inequalities","rows","unknown","found","rising","falling","weights"]) (osc:=jae jcl) rfl rfl rfl (by decide +kernel)) (jbv (jaa 1)) (fun _ _ _ _=>(jau (i:=0) (show (["row","unknown"]:List Str).Nodup from by decide +kernel))) (fun _ _ _ _=>(ji6 (jbc jjh jbz (jal jah jai (jal jah jai (jal jah jai (jaa 0) jad) jad) (jaa 1)) jad (ja3 _)))) (fun _ _ _ _=>(jaa 0)))) (jau (i:=5) sc_taken_out.nd) (jag (jav (i:=6) sc_taken_out.nd (jam (jug T) (hr.m rfl) (jab (jaa 4) (jab (jaa 5) (jab (jaa 2) jaf)))))
  (jaj (jh3 (i:=3) rfl (jcm (jab (jam (jpu T) (hr.m rfl) (jab (jaa 0) (jab (jaw jbf jck rfl T.b_len jdx (jab (jal jah jai (jal jah jai (jaa 4) jad) jad) jaf)) (jab (jaa 6) jaf)))) (jab (jaa 6) jaf))))))))))
  (jmu (O':=[]) (by decide) (jd5 (jya (jiw (juh T) (hr.m rfl) (jht (jab (jaa 3) jaf))))))))
theorem jog(T:Txt K mg):CalE P w K mg base 4 "taken_out" 3 jd4:=jj8 T.f_taken_out sc_taken_out (jlh T)
theorem joo:FnScope ["number","strict"] ["number","strict"] (jae jfm):=.m rfl rfl rfl rfl (by decide +kernel)
def jhm:DSt->M Out:=(gRet (fIf (tTru (fVar 1)) (f2 gGt (fVar 0) (fC (.int 0))) (f2 gGe (fVar 0) (fC (.int 0)))))
def jd2:List D->M D:=mir 2 2 jhm
theorem jla(T:Txt K mg):jcp P w K mg base 1 "is_enough" jfm ["number","strict"] jhm:=fun _ _ _ _ _ _ _ hr=>
 (jaj (jat (js1 (je0 (jaa 1)) (ji7 jky jbz (jaa 0) jad (ja3 _)) (ji7 juj jbz (jaa 0) jad (ja3 _)))))
theorem joc(T:Txt K mg):Cal P w K mg base 2 "is_enough" 2 jd2:=jbk T.f_is_enough joo (jla T)
theorem sc_solved:FnScope ["inequalities","unknowns","stages","unknown","inequality","weights"] ["inequalities","unknowns"] (jae jjv):=.m rfl rfl rfl rfl (by decide +kernel)
def jjy:DSt->MS Out:=(eApp 2 (jid jd4 (lF (jac (fVar 0) (jac (f2 gIx (fVar 2) (fVar 3)) (jac (fVar 3) fNil))))))
def jdw:DSt->M Out:=(gIf (DL.tNot (tTru (ja2 jd2 (jac (f2 gIx (fVar 4) (fC (.int 1))) (jac (f2 gIx (fVar 4) (fC (.int 2))) fNil))))) (gRet (fL jcy (jac (fC (.str "weights")) (jac (fVar 5) fNil)))) gNx)
def jgt:DSt->MS Out:=(eSeq (lF (gSet 2 (fL jbi (jac (ja2 jel (jac (fVar 0) fNil)) fNil))))
  (eSeq (eFor (lF (jca ja9 (jac (fVar 1) fNil))) (DL.gName 3) jjy)
  (eSeq (lF (gFor (jcr (f2 gIx (fVar 2) (fVar 1))) (jcq 4 5) jdw))
  (lF (gRet (fL jcy (jac (fC (.str "point")) (jac (ja2 je4 (jac (fVar 2) (jac (fVar 1) fNil))) fNil))))))))
def jih:List D->MS D:=mirE 2 6 jgt
theorem jo5(T:Txt K mg):jrk P w K mg base 6 "solved" jjv ["inequalities","unknowns","stages","unknown","inequality","weights"] jgt:=fun _ _ _ _ _ _ _ hr=>
 (ja7 (jbu (jh4 (i:=2) sc_solved.nd (jab (jam (jmw T) (hr.m rfl) (jab (jaa 0) jaf)) jaf)))
  (ja7 (jq0 PassesOwn.never rfl (jkp (jci rfl T.b_range (jab (jaa 1) jaf))) (jau (i:=3) sc_solved.nd) (jd5 (jC1 (i:=2) rfl (jiw (jog T) (hr.m rfl) (jht (jab (jaa 0) (jab (js2 2 rfl (jaa 3)) (jab (jaa 3) jaf))))))))
  (jmu (O':=[]) (by decide) (ja7 (jbu (jcd PassesOwn.never rfl (jbv (jal jah jai (jaa 2) (jaa 1))) (jc0 (i:=4) (j:=5) rfl sc_solved.nd) (jaj (jd9 (jh5 (je0 (jam (joc T) (hr.m rfl) (jab (jal jah jai (jaa 4) jad) (jab (jal jah jai (jaa 4) jad) jaf))))) (jaj (jat (jcm (jab ji9 (jab (jaa 5) jaf))))) jbl))))
  (jd5 (jbu (jat (jcm (jab ji9 (jab (jam (jps T) (hr.m rfl) (jab (jaa 2) (jab (jaa 1) jaf))) jaf))))))))))
theorem jui(T:Txt K mg):CalE P w K mg base 7 "solved" 2 jih:=jj8 T.f_solved sc_solved (jo5 T)
theorem jsa:FnScope ["rule"] ["rule"] (jae jil):=.m rfl rfl rfl rfl (by decide +kernel)
def jki:DSt->M Out:=(gRet (fL jcy (jac (f2 gIx (fVar 0) (fC (.int 1))) (jac (f2 gIx (fVar 0) (fC (.int 2))) (jac (fC (.bl false)) fNil)))))
def jig:List D->M D:=mir 1 1 jki
theorem jni(T:Txt K mg):jcp P w K mg base 1 "kept_by" jil ["rule"] jki:=fun _ _ _ _ _ _ _ hr=>
 (jaj (jat (jcm (jab (jal jah jai (jaa 0) jad) (jab (jal jah jai (jaa 0) jad) (jab jh1 jaf))))))
theorem jr2(T:Txt K mg):Cal P w K mg base 2 "kept_by" 1 jig:=jbk T.f_kept_by jsa (jni T)
theorem jon:FnScope ["rule"] ["rule"] (jae jd7):=.m rfl rfl rfl rfl (by decide +kernel)
def jf4:DSt->M D:=(f1 gNeg (fVar 0))
def jhl:DSt->M Out:=(gRet (fL jcy (jac (fL kTuple (jac (jce 1 [] (jcr (f2 gIx (fVar 0) (fC (.int 1)))) (DL.gName 0) tYes jf4) fNil)) (jac (f1 gNeg (f2 gIx (fVar 0) (fC (.int 2)))) (jac (fC (.bl true)) fNil)))))
def jfh:List D->M D:=mir 1 1 jhl
theorem jk9(T:Txt K mg):jcp P w K mg base 1 "broken_by" jd7 ["rule"] jhl:=fun _ _ _ _ _ _ _ hr=>
 (jaj (jat (jcm (jab (jez jbr jex rfl T.b_tuple jee (jab (jb9 (own:=["coefficient"]) (caps:=[]) rfl (jbg (N:=["rule"]) (osc:=jae jd7) rfl rfl rfl (by decide +kernel)) (jbv (jal jah jai (jaa 0) jad)) (fun _ _ _ _=>(jau (i:=0) (show (["coefficient"]:List Str).Nodup from by decide +kernel))) (fun _ _ _ _=>jb8) (fun _ _ _ _=>(jh2 jet jcx (jaa 0)))) jaf)) (jab (jh2 jet jcx (jal jah jai (jaa 0) jad)) (jab jh1 jaf))))))
theorem job(T:Txt K mg):Cal P w K mg base 2 "broken_by" 1 jfh:=jbk T.f_broken_by jon (jk9 T)
theorem sc_needless:FnScope ["book","others","rule","inequalities","answer"] ["book","others","rule"] (jae je7):=.m rfl rfl rfl rfl (by decide +kernel)
def jhh:DSt->M D:=(ja2 jig (jac (f2 gIx (f2 gIx (fVar 1) (fC (.int 1))) (fVar 0)) fNil))
def jdu:DSt->MS Out:=(eSeq (lF (gSet 3 (jce 1 [("book",0)] (jcr (fVar 1)) (DL.gName 0) tYes jhh)))
  (eSeq (lF (gApp 3 (ja2 jfh (jac (f2 gIx (f2 gIx (fVar 0) (fC (.int 1))) (fVar 2)) fNil))))
  (eSeq (eSet 4 (jid jih (lF (jac (fVar 3) (jac (fL kLen (jac (f2 gIx (fVar 0) (fC (.int 0))) fNil)) fNil)))))
  (eSeq (lF (gIf (t2 gEq (f2 gIx (fVar 4) (fC (.int 0))) (fC (.str "point"))) (gRet (fVar 4)) gNx))
  (lF (gRet (fL jcy (jac (fC (.str "weights")) (jac (f2 gIx (f2 gIx (fVar 4) (fC (.int 1))) (f1 gNeg (fC (.int 1)))) (jac (fSl (f2 gIx (fVar 4) (fC (.int 1))) jry (jrz (f1 gNeg (fC (.int 1))))) fNil))))))))))
def jby:List D->MS D:=mirE 3 5 jdu
theorem jmd(T:Txt K mg):jrk P w K mg base 7 "needless" je7 ["book","others","rule","inequalities","answer"] jdu:=fun _ _ _ _ _ _ _ hr=>
 (ja7 (jbu (jo9 (i:=3) sc_needless.nd (own:=["other"]) (caps:=[("book",0)]) rfl (jbg (N:=["book","others","rule","inequalities","answer"]) (osc:=jae je7) rfl rfl rfl (by decide +kernel)) (jbv (jaa 1)) (fun _ _ _ _=>(jau (i:=0) (show (["other","book"]:List Str).Nodup from by decide +kernel))) (fun _ _ _ _=>jb8) (fun _ _ _ _=>(jam (jr2 T) (hr.m rfl) (jab (jal jah jai (jal jah jai (jaa 1) jad) (jaa 0)) jaf)))))
  (ja7 (jbu (jh3 (i:=3) rfl (jam (job T) (hr.m rfl) (jab (jal jah jai (jal jah jai (jaa 0) jad) (jaa 2)) jaf))))
  (jmu (O':=[]) (by decide) (ja7 (jn5 (i:=4) sc_needless.nd (jiw (jui T) (hr.m rfl) (jht (jab (jaa 3) (jab (jaw jbf jck rfl T.b_len jdx (jab (jal jah jai (jaa 0) jad) jaf)) jaf)))))
  (ja7 (jbu (jd9 (jbc (jkx (hu30 hr)) jk0 (jal jah jai (jaa 4) jad) ji9 (ja3 _)) (jaj (jat (jaa 4))) jbl))
  (jd5 (jbu (jat (jcm (jab ji9 (jab (jal jah jai (jal jah jai (jaa 4) jad) (jh2 jet jcx jad)) (jab (jqk (jal jah jai (jaa 4) jad) js7 (js8 (jh2 jet jcx jad))) jaf))))))))))))
theorem jkw(T:Txt K mg):CalE P w K mg base 8 "needless" 3 jby:=jj8 T.f_needless sc_needless (jmd T)
theorem sc_counted:FnScope ["book","places","rule","others"] ["book"] (jae jgh):=.m rfl rfl rfl rfl (by decide +kernel)
def jlp:DSt->M D:=(fVar 0)
def jgm:DSt->MS Out:=(eSeq (lF (gSet 3 (jce 1 [("rule",2)] (jcr (fVar 1)) (DL.gName 0) (t2 gNe (fVar 0) (fVar 1)) jlp)))
  (eIf (mB (m2 gEq (m2 gIx (jid jby (lF (jac (fVar 0) (jac (fVar 3) (jac (fVar 2) fNil))))) (lF (fC (.int 0)))) (lF (fC (.str "weights"))))) (lF (gSet 1 (fVar 3))) eNx))
def jga:DSt->MS Out:=(eSeq (lF (gSet 1 (fL jwg (jac (fL kLen (jac (f2 gIx (fVar 0) (fC (.int 1))) fNil)) fNil))))
  (eSeq (eFor (lF (jca ja9 (jac (fL kLen (jac (f2 gIx (fVar 0) (fC (.int 1))) fNil)) fNil))) (DL.gName 2) jgm)
  (lF (gRet (fVar 1)))))
def jif:List D->MS D:=mirE 1 4 jga
theorem jng(T:Txt K mg):jrk P w K mg base 8 "counted" jgh ["book","places","rule","others"] jga:=fun _ _ _ _ _ _ _ hr=>
 (ja7 (jbu (jv1 (i:=1) sc_counted.nd rfl rfl T.b_list rfl T.b_range (jab (jaw jbf jck rfl T.b_len jdx (jab (jal jah jai (jaa 0) jad) jaf)) jaf)))
  (jmu (O':=[]) (by decide) (ja7 (jq0 PassesOwn.never rfl (jkp (jci rfl T.b_range (jab (jaw jbf jck rfl T.b_len jdx (jab (jal jah jai (jaa 0) jad) jaf)) jaf))) (jau (i:=2) sc_counted.nd) (ja7 (jbu (jmn (i:=3) sc_counted.nd (own:=["place"]) (caps:=[("rule",2)]) rfl (jbg (N:=["book","places","rule","others"]) (osc:=jae jgh) rfl rfl rfl (by decide +kernel)) (jbv (jaa 1)) (fun _ _ _ _=>(jau (i:=0) (show (["place","rule"]:List Str).Nodup from by decide +kernel))) (fun _ _ _ _=>(ji6 (jbc (jhc (hu30 hr)) jhd (jaa 0) (jaa 1) (ja3 _)))) (fun _ _ _ _=>(jaa 0))))
  (jd5 (jGa (jC2 (jkx (hu30 hr)) jk0 (jF9 jah jai (jiw (jkw T) (hr.m rfl) (jht (jab (jaa 0) (jab (jaa 3) (jab (jaa 2) jaf))))) (jhu jad)) (jhu ji9) (ja3 _)) (jd5 (jbu (jav (i:=1) sc_counted.nd (jaa 3)))) jzr))))
  (jd5 (jbu (jat (jaa 1)))))))
theorem jr1(T:Txt K mg):CalE P w K mg base 9 "counted" 1 jif:=jj8 T.f_counted sc_counted (jng T)
theorem jm5:FnScope ["_law_book_here"] ["_law_book_here"] (jae jdg):=.m rfl rfl rfl rfl (by decide +kernel)
def jfc:DSt->M D:=(f2 gIx (fVar 0) (fC (.int 1)))
def jgc:DSt->M Out:=(gRet (fL kTuple (jac (jce 1 [] (jcr (f2 gIx (fVar 0) (fC (.int 0)))) (DL.gName 0) tYes jfc) fNil)))
def jeo:List D->M D:=mir 1 1 jgc
theorem jj3(T:Txt K mg):jcp P w K mg base 1 "_law_starts" jdg ["_law_book_here"] jgc:=fun _ _ _ _ _ _ _ hr=>
 (jaj (jat (jez jbr jex rfl T.b_tuple jee (jab (jb9 (own:=["_law_item"]) (caps:=[]) rfl (jbg (N:=["_law_book_here"]) (osc:=jae jdg) rfl rfl rfl (by decide +kernel)) (jbv (jal jah jai (jaa 0) jad)) (fun _ _ _ _=>(jau (i:=0) (show (["_law_item"]:List Str).Nodup from by decide +kernel))) (fun _ _ _ _=>jb8) (fun _ _ _ _=>(jal jah jai (jaa 0) jad))) jaf))))
theorem jmz(T:Txt K mg):Cal P w K mg base 2 "_law_starts" 1 jeo:=jbk T.f_law_starts jm5 (jj3 T)
theorem jop:FnScope ["_law_book_here","_law_rule","_law_state"] ["_law_book_here","_law_rule","_law_state"] (jae jd8):=.m rfl rfl rfl rfl (by decide +kernel)
def jf5:DSt->M D:=(f2 jbj (fVar 0) (fVar 1))
def jhq:DSt->M Out:=(gRet (f2 gCat (fL kSum (jac (jce 2 [] (jca jcb (jac (f2 gIx (f2 gIx (f2 gIx (fVar 0) (fC (.int 1))) (fVar 1)) (fC (.int 1))) (jac (fVar 2) fNil))) (jcq 0 1) tYes jf5) fNil)) (f2 gIx (f2 gIx (f2 gIx (fVar 0) (fC (.int 1))) (fVar 1)) (fC (.int 2)))))
def jc2:List D->M D:=mir 3 3 jhq
theorem jlf(T:Txt K mg):jcp P w K mg base 1 "_law_spare" jd8 ["_law_book_here","_law_rule","_law_state"] jhq:=fun _ _ _ _ _ _ _ hr=>
 (jaj (jat (jak ja0 ja1 (jaw (jj9 rfl) jo8 rfl T.b_sum jsq (jab (jb9 (own:=["_law_one","_law_other"]) (caps:=[]) rfl (jbg (N:=["_law_book_here","_law_rule","_law_state"]) (osc:=jae jd8) rfl rfl rfl (by decide +kernel)) (jja rfl T.b_zip (jab (jal jah jai (jal jah jai (jal jah jai (jaa 0) jad) (jaa 1)) jad) (jab (jaa 2) jaf))) (fun _ _ _ _=>(jc0 (i:=0) (j:=1) rfl (show (["_law_one","_law_other"]:List Str).Nodup from by decide +kernel))) (fun _ _ _ _=>jb8) (fun _ _ _ _=>(jak ja4 jas (jaa 0) (jaa 1)))) jaf)) (jal jah jai (jal jah jai (jal jah jai (jaa 0) jad) (jaa 1)) jad))))
theorem jjf(T:Txt K mg):Cal P w K mg base 2 "_law_spare" 3 jc2:=jbk T.f_law_spare jop (jlf T)
theorem sc_law_holds:FnScope ["_law_inequality","_law_point","_law_top","_law_bottom","_law_number","_law_part_told"] ["_law_inequality","_law_point"] (jae jfo):=.m rfl rfl rfl rfl (by decide +kernel)
def jfz:DSt->M Out:=(gSeq (gSet 2 (f2 gCat (f2 jbj (fVar 2) (f2 gIx (fVar 5) (fC (.int 1)))) (f2 jbj (f2 jbj (fVar 4) (f2 gIx (fVar 5) (fC (.int 0)))) (fVar 3))))
  (gSet 3 (f2 jbj (fVar 3) (f2 gIx (fVar 5) (fC (.int 1))))))
def jff:DSt->M Out:=(gSeq (gSet 2 (f2 gIx (fVar 0) (fC (.int 1))))
  (gSeq (gSet 3 (fC (.int 1)))
  (gSeq (gFor (jca jcb (jac (f2 gIx (fVar 0) (fC (.int 0))) (jac (fVar 1) fNil))) (jcq 4 5) jfz)
  (gRet (fOr (f2 gGt (fVar 2) (fC (.int 0))) (fAnd (f2 gEq (fVar 2) (fC (.int 0))) (f1 gNot (f2 gIx (fVar 0) (fC (.int 2))))))))))
def jb2:List D->M D:=mir 2 6 jff
theorem jlc(T:Txt K mg):jcp P w K mg base 1 "_law_holds" jfo ["_law_inequality","_law_point","_law_top","_law_bottom","_law_number","_law_part_told"] jff:=fun _ _ _ _ _ _ _ hr=>
 (jag (jav (i:=2) sc_law_holds.nd (jal jah jai (jaa 0) jad))
  (jag (jav (i:=3) sc_law_holds.nd jad)
  (jag (jcd PassesOwn.never rfl (jja rfl T.b_zip (jab (jal jah jai (jaa 0) jad) (jab (jaa 1) jaf))) (jc0 (i:=4) (j:=5) rfl sc_law_holds.nd) (jag (jav (i:=2) sc_law_holds.nd (jak ja0 ja1 (jak ja4 jas (jaa 2) (jal jah jai (jaa 5) jad)) (jak ja4 jas (jak ja4 jas (jaa 4) (jal jah jai (jaa 5) jad)) (jaa 3))))
  (jaj (jav (i:=3) sc_law_holds.nd (jak ja4 jas (jaa 3) (jal jah jai (jaa 5) jad))))))
  (jaj (jat (jFe (ji7 jky jbz (jaa 2) jad (ja3 _)) (jnp (jqi (ji7 (jkx (hu30 hr)) jk0 (jaa 2) jad (ja3 _)) (jnp (js3 (jal jah jai (jaa 0) jad)))))))))))
theorem jje(T:Txt K mg):Cal P w K mg base 2 "_law_holds" 2 jb2:=jbk T.f_law_holds sc_law_holds (jlc T)
theorem joq:FnScope ["_law_found"] ["_law_found"] (jae jfq):=.m rfl rfl rfl rfl (by decide +kernel)
def jhr:DSt->M Out:=(gRet (fAnd (fL kIsi (jac (fVar 0) (jac (fC (.ty "int")) fNil))) (f1 gNot (fL kIsi (jac (fVar 0) (jac (fC (.ty "bool")) fNil))))))
def jd3:List D->M D:=mir 1 1 jhr
theorem jlg(T:Txt K mg):jcp P w K mg base 1 "_law_whole" jfq ["_law_found"] jhr:=fun _ _ _ _ _ _ _ hr=>
 (jaj (jat (jqi (jaw jhz jmh rfl T.b_isinstance jdo (jab (jaa 0) (jab (jmm rfl T.b_int jBa) jaf))) (jnp (js3 (jaw jhz jmh rfl T.b_isinstance jdo (jab (jaa 0) (jab (jmm rfl T.b_bool jyq) jaf))))))))
theorem jjg(T:Txt K mg):Cal P w K mg base 2 "_law_whole" 1 jd3:=jbk T.f_law_whole joq (jlg T)
theorem sc_law_is_point:FnScope ["_law_point","_law_unknowns","_law_part_told","_law_one","_law_other"] ["_law_point","_law_unknowns"] (jae jda):=.m rfl rfl rfl rfl (by decide +kernel)
def jb5:DSt->M Bool:=(t2 gNe (fVar 4) (fC (.int 0)))
def jb1:DSt->M Out:=(gPar 3 4 (jac (fVar 4) (jac (f2 gMod (fVar 3) (fVar 4)) fNil)))
def jcs:DSt->M Out:=(gSeq (gIf (DL.tOr (DL.tNot (tTru (fL kIsi (jac (fVar 2) (jac (fC (.ty "tuple")) fNil))))) (t2 gNe (fL kLen (jac (fVar 2) fNil)) (fC (.int 2)))) (gRet (fC (.bl false))) gNx)
  (gSeq (gIf (DL.tOr (DL.tNot (tTru (ja2 jd3 (jac (f2 gIx (fVar 2) (fC (.int 0))) fNil)))) (DL.tOr (DL.tNot (tTru (ja2 jd3 (jac (f2 gIx (fVar 2) (fC (.int 1))) fNil)))) (t2 gLt (f2 gIx (fVar 2) (fC (.int 1))) (fC (.int 1))))) (gRet (fC (.bl false))) gNx)
  (gSeq (gAsg (jcq 3 4) (fVar 2))
  (gSeq (jdm jb5 jb1 FUEL)
  (gIf (t2 gNe (fL kAbs (jac (fVar 3) fNil)) (fC (.int 1))) (gRet (fC (.bl false))) gNx)))))
def jc8:DSt->M Out:=(gSeq (gIf (DL.tOr (DL.tNot (tTru (fL kIsi (jac (fVar 0) (jac (fC (.ty "list")) fNil))))) (t2 gNe (fL kLen (jac (fVar 0) fNil)) (fVar 1))) (gRet (fC (.bl false))) gNx)
  (gSeq (gFor (jcr (fVar 0)) (DL.gName 2) jcs)
  (gRet (fC (.bl true)))))
def jc9:List D->M D:=mir 2 5 jc8
theorem jiq(T:Txt K mg):jcp P w K mg base 2 "_law_is_point" jda ["_law_point","_law_unknowns","_law_part_told","_law_one","_law_other"] jc8:=fun _ _ _ _ _ _ _ hr=>
 (jag (jd9 (DW.dt (jmo (jh5 (je0 (jaw jhz jmh rfl T.b_isinstance jdo (jab (jaa 0) (jab (jmm rfl T.b_list jo6) jaf))))) (jjb (jbc (jhc (hu30 hr)) jhd (jaw jbf jck rfl T.b_len jdx (jab (jaa 0) jaf)) (jaa 1) (ja3 _))))) (jaj (jat jh1)) jbl)
  (jag (jcd PassesOwn.never rfl (jbv (jaa 0)) (jau (i:=2) sc_law_is_point.nd) (jag (jd9 (DW.dt (jmo (jh5 (je0 (jaw jhz jmh rfl T.b_isinstance jdo (jab (jaa 2) (jab (jmm rfl T.b_tuple jee) jaf))))) (jjb (jbc (jhc (hu30 hr)) jhd (jaw jbf jck rfl T.b_len jdx (jab (jaa 2) jaf)) jad (ja3 _))))) (jaj (jat jh1)) jbl)
  (jag (jd9 (DW.dt (jmo (jh5 (je0 (jam (jjg T) (hr.m rfl) (jab (jal jah jai (jaa 2) jad) jaf)))) (jmo (jh5 (je0 (jam (jjg T) (hr.m rfl) (jab (jal jah jai (jaa 2) jad) jaf)))) (jjb (jbc jjh jbz (jal jah jai (jaa 2) jad) jad (ja3 _)))))) (jaj (jat jh1)) jbl)
  (jag (jBh (jaa 2) (jc0 (i:=3) (j:=4) rfl sc_law_is_point.nd))
  (jag (jql (fuel:=FUEL) PassesOwn.never (jbc (jhc (hu30 hr)) jhd (jaa 4) jad (ja3 _)) (jaj (jBk (i:=3) (j:=4) rfl sc_law_is_point.nd (by decide) (jab (jaa 4) (jab (jak jbw jbb (jaa 3) (jaa 4)) jaf)))))
  (jaj (jd9 (jbc (jhc (hu30 hr)) jhd (jaw jmi jo7 rfl T.b_abs jsp (jab (jaa 3) jaf)) jad (ja3 _)) (jaj (jat jh1)) jbl)))))))
  (jaj (jat jh1))))
theorem jkv(T:Txt K mg):Cal P w K mg base 3 "_law_is_point" 2 jc9:=jbk T.f_law_is_point sc_law_is_point (jiq T)
theorem sc_law_breaks:FnScope ["_law_book_here","_law_others","_law_rule","_law_found","_law_other"] ["_law_book_here","_law_others","_law_rule","_law_found"] (jae jes):=.m rfl rfl rfl rfl (by decide +kernel)
def je9:DSt->M Out:=(gIf (DL.tNot (tTru (ja2 jb2 (jac (fL jcy (jac (f2 gIx (f2 gIx (f2 gIx (fVar 0) (fC (.int 1))) (fVar 4)) (fC (.int 1))) (jac (f2 gIx (f2 gIx (f2 gIx (fVar 0) (fC (.int 1))) (fVar 4)) (fC (.int 2))) (jac (fC (.bl false)) fNil)))) (jac (f2 gIx (fVar 3) (fC (.int 1))) fNil))))) (gRet (fC (.bl false))) gNx)
def jei:DSt->M Out:=(gSeq (gIf (DL.tOr (t2 gNe (fL kLen (jac (fVar 3) fNil)) (fC (.int 2))) (DL.tNot (tTru (ja2 jc9 (jac (f2 gIx (fVar 3) (fC (.int 1))) (jac (fL kLen (jac (f2 gIx (fVar 0) (fC (.int 0))) fNil)) fNil)))))) (gRet (fC (.bl false))) gNx)
  (gSeq (gFor (jcr (fVar 1)) (DL.gName 4) je9)
  (gRet (f1 gNot (ja2 jb2 (jac (fL jcy (jac (f2 gIx (f2 gIx (f2 gIx (fVar 0) (fC (.int 1))) (fVar 2)) (fC (.int 1))) (jac (f2 gIx (f2 gIx (f2 gIx (fVar 0) (fC (.int 1))) (fVar 2)) (fC (.int 2))) (jac (fC (.bl false)) fNil)))) (jac (f2 gIx (fVar 3) (fC (.int 1))) fNil)))))))
def jen:List D->M D:=mir 4 5 jei
theorem jj2(T:Txt K mg):jcp P w K mg base 3 "_law_breaks" jes ["_law_book_here","_law_others","_law_rule","_law_found","_law_other"] jei:=fun _ _ _ _ _ _ _ hr=>
 (jag (jd9 (DW.dt (jmo (jbc (jhc (hu30 hr)) jhd (jaw jbf jck rfl T.b_len jdx (jab (jaa 3) jaf)) jad (ja3 _)) (jjb (jh5 (je0 (jam (jkv T) (hr.m rfl) (jab (jal jah jai (jaa 3) jad) (jab (jaw jbf jck rfl T.b_len jdx (jab (jal jah jai (jaa 0) jad) jaf)) jaf)))))))) (jaj (jat jh1)) jbl)
  (jag (jcd PassesOwn.never rfl (jbv (jaa 1)) (jau (i:=4) sc_law_breaks.nd) (jaj (jd9 (jh5 (je0 (jam (jje T) (hr.m rfl) (jab (jcm (jab (jal jah jai (jal jah jai (jal jah jai (jaa 0) jad) (jaa 4)) jad) (jab (jal jah jai (jal jah jai (jal jah jai (jaa 0) jad) (jaa 4)) jad) (jab jh1 jaf)))) (jab (jal jah jai (jaa 3) jad) jaf))))) (jaj (jat jh1)) jbl)))
  (jaj (jat (js3 (jam (jje T) (hr.m rfl) (jab (jcm (jab (jal jah jai (jal jah jai (jal jah jai (jaa 0) jad) (jaa 2)) jad) (jab (jal jah jai (jal jah jai (jal jah jai (jaa 0) jad) (jaa 2)) jad) (jab jh1 jaf)))) (jab (jal jah jai (jaa 3) jad) jaf))))))))
theorem jmy(T:Txt K mg):Cal P w K mg base 4 "_law_breaks" 4 jen:=jbk T.f_law_breaks sc_law_breaks (jj2 T)
theorem sc_law:FnScope ["_law_script","_law_book_here","_law_places","_law_starts_here","_law_k","_law_drawn","_law_state","_law_kept","_law_rule","_law_others","_law_found"] ["_law_script"] (jae jp1):=.m rfl rfl rfl rfl (by decide +kernel)
def jqb:DSt->M D:=(f2 gSub (f2 gCat (fVar 1) (f2 gMod (f2 jd1 (fVar 2) (f2 gIx (fL jbi (jac (fC (.int 1)) (jac (fC (.int 41)) (jac (fC (.int 1681)) fNil)))) (fVar 0))) (fC (.int 41)))) (fC (.int 20)))
def jxs:DSt->M D:=(fVar 0)
def jp7:DSt->M Out:=(gIf (t2 gLt (ja2 jc2 (jac (fVar 1) (jac (fVar 8) (jac (fVar 6) fNil)))) (fC (.int 0))) (gRet (fC (.bl false))) gNx)
def jlo:DSt->M Out:=(gSeq (gSet 5 (ja2 jde (jac (ja2 jay (jac (fVar 0) (jac (f2 gCat (fC (.int 6)) (fVar 4)) fNil))) (jac (f2 gCat (fC (.int 6)) (fVar 4)) fNil))))
  (gSeq (gSet 6 (fL kTuple (jac (jce 2 [("_law_drawn",5)] (jca jh6 (jac (fVar 3) fNil)) (jcq 0 1) tYes jqb) fNil)))
  (gSeq (gSet 7 (jce 1 [("_law_book_here",1),("_law_state",6)] (jcr (fVar 2)) (DL.gName 0) (t2 gGe (ja2 jc2 (jac (fVar 1) (jac (fVar 0) (jac (fVar 2) fNil)))) (fC (.int 0))) jxs))
  (gSeq (gIf (t2 gNe (fVar 7) (fVar 2)) gCnt gNx)
  (gFor (jca ja9 (jac (fL kLen (jac (f2 gIx (fVar 1) (fC (.int 1))) fNil)) fNil)) (DL.gName 8) jp7)))))
def jxt:DSt->M D:=(fVar 0)
def jsm:DSt->MS Out:=(eSeq (lF (gSet 9 (jce 1 [("_law_rule",8)] (jcr (fVar 2)) (DL.gName 0) (t2 gNe (fVar 0) (fVar 1)) jxt)))
  (eSeq (eSet 10 (jid jby (lF (jac (fVar 1) (jac (fVar 9) (jac (fVar 8) fNil))))))
  (lF (gIf (DL.tOr (t2 gNe (f2 gIx (fVar 10) (fC (.int 0))) (fC (.str "point"))) (DL.tNot (tTru (ja2 jen (jac (fVar 1) (jac (fVar 9) (jac (fVar 8) (jac (fVar 10) fNil)))))))) (gRet (fC (.bl false))) gNx))))
def jtg:DSt->MS Out:=(eSeq (lF (gSet 1 (ja2 jgx (jac (fVar 0) fNil))))
  (eSeq (eSet 2 (jid jif (lF (jac (fVar 1) fNil))))
  (eSeq (lF (gSet 3 (ja2 jeo (jac (fVar 1) fNil))))
  (eSeq (lF (gFor (jca ja9 (jac (fC (.int 40)) fNil)) (DL.gName 4) jlo))
  (eSeq (eFor (lF (jcr (fVar 2))) (DL.gName 8) jsm)
  (lF (gRet (fC (.bl true)))))))))
def jt6:List D->MS D:=mirE 1 11 jtg
theorem jvk(T:Txt K mg):jrk P w K mg base 9 "law" jp1 ["_law_script","_law_book_here","_law_places","_law_starts_here","_law_k","_law_drawn","_law_state","_law_kept","_law_rule","_law_others","_law_found"] jtg:=fun _ _ _ _ _ _ _ hr=>
 (ja7 (jbu (jav (i:=1) sc_law.nd (jam (jpr T) (hr.m rfl) (jab (jaa 0) jaf))))
  (ja7 (jn5 (i:=2) sc_law.nd (jiw (jr1 T) (hr.m rfl) (jht (jab (jaa 1) jaf))))
  (ja7 (jbu (jav (i:=3) sc_law.nd (jam (jmz T) (hr.m rfl) (jab (jaa 1) jaf))))
  (ja7 (jbu (jcd PassesOwn.never rfl (jci rfl T.b_range (jab jad jaf)) (jau (i:=4) sc_law.nd) (jag (jav (i:=5) sc_law.nd (jam (jiy T) (hr.m rfl) (jab (jam (jbm T) (hr.m rfl) (jab (jaa 0) (jab (jak ja0 ja1 jad (jaa 4)) jaf))) (jab (jak ja0 ja1 jad (jaa 4)) jaf))))
  (jag (jav (i:=6) sc_law.nd (jez jbr jex rfl T.b_tuple jee (jab (jb9 (own:=["_law_place","_law_start"]) (caps:=[("_law_drawn",5)]) rfl (jbg (N:=["_law_script","_law_book_here","_law_places","_law_starts_here","_law_k","_law_drawn","_law_state","_law_kept","_law_rule","_law_others","_law_found"]) (osc:=jae jp1) rfl rfl rfl (by decide +kernel)) (jv0 rfl T.b_enumerate (jab (jaa 3) jaf)) (fun _ _ _ _=>(jc0 (i:=0) (j:=1) rfl (show (["_law_place","_law_start","_law_drawn"]:List Str).Nodup from by decide +kernel))) (fun _ _ _ _=>jb8) (fun _ _ _ _=>(jak jkz jhw (jak ja0 ja1 (jaa 1) (jak jbw jbb (jak jbn jbo (jaa 2) (jal jah jai (jqj (jab jad (jab jad (jab jad jaf)))) (jaa 0))) jad)) jad))) jaf)))
  (jag (jmn (i:=7) sc_law.nd (own:=["_law_rule"]) (caps:=[("_law_book_here",1),("_law_state",6)]) rfl (jbg (N:=["_law_script","_law_book_here","_law_places","_law_starts_here","_law_k","_law_drawn","_law_state","_law_kept","_law_rule","_law_others","_law_found"]) (osc:=jae jp1) rfl rfl rfl (by decide +kernel)) (jbv (jaa 2)) (fun _ _ _ _=>(jau (i:=0) (show (["_law_rule","_law_book_here","_law_state"]:List Str).Nodup from by decide +kernel))) (fun _ _ _ _=>(ji6 (jbc juj jbz (jam (jjf T) (hr.m rfl) (jab (jaa 1) (jab (jaa 0) (jab (jaa 2) jaf)))) jad (ja3 _)))) (fun _ _ _ _=>(jaa 0)))
  (jag (jd9 (jbc (jhc (hu30 hr)) jhd (jaa 7) (jaa 2) (ja3 _)) (jaj jBi) jbl)
  (jaj (jcd PassesOwn.never rfl (jci rfl T.b_range (jab (jaw jbf jck rfl T.b_len jdx (jab (jal jah jai (jaa 1) jad) jaf)) jaf)) (jau (i:=8) sc_law.nd) (jaj (jd9 (jbc jjh jbz (jam (jjf T) (hr.m rfl) (jab (jaa 1) (jab (jaa 8) (jab (jaa 6) jaf)))) jad (ja3 _)) (jaj (jat jh1)) jbl))))))))))
  (ja7 (jq0 PassesOwn.never rfl (jkp (jbv (jaa 2))) (jau (i:=8) sc_law.nd) (ja7 (jbu (jmn (i:=9) sc_law.nd (own:=["_law_other"]) (caps:=[("_law_rule",8)]) rfl (jbg (N:=["_law_script","_law_book_here","_law_places","_law_starts_here","_law_k","_law_drawn","_law_state","_law_kept","_law_rule","_law_others","_law_found"]) (osc:=jae jp1) rfl rfl rfl (by decide +kernel)) (jbv (jaa 2)) (fun _ _ _ _=>(jau (i:=0) (show (["_law_other","_law_rule"]:List Str).Nodup from by decide +kernel))) (fun _ _ _ _=>(ji6 (jbc (jhc (hu30 hr)) jhd (jaa 0) (jaa 1) (ja3 _)))) (fun _ _ _ _=>(jaa 0))))
  (ja7 (jn5 (i:=10) sc_law.nd (jiw (jkw T) (hr.m rfl) (jht (jab (jaa 1) (jab (jaa 9) (jab (jaa 8) jaf))))))
  (jd5 (jbu (jd9 (DW.dt (jmo (jbc (jhc (hu30 hr)) jhd (jal jah jai (jaa 10) jad) ji9 (ja3 _)) (jjb (jh5 (je0 (jam (jmy T) (hr.m rfl) (jab (jaa 1) (jab (jaa 9) (jab (jaa 8) (jab (jaa 10) jaf)))))))))) (jaj (jat jh1)) jbl))))))
  (jd5 (jbu (jat jh1))))))))
end
theorem jlj{us:List Value}{n:Nat}(h:us.length=n+1):∃ a r,us=a::r/\r.length=n:=by
 cases us with
 | nil=>cases h
 | cons a r=>exact⟨a,r,rfl,Nat.succ.inj h⟩
theorem jE6{fd:FuncData}{p0:Str}(h:∀ a0:Value,bindArgs fd ⟨[a0],[]⟩=pure ([p0].zip [a0]))(us:List Value)(hl:us.length=([p0]:List Str).length):bindArgs fd ⟨us,[]⟩=pure ([p0].zip us):=by
 obtain⟨a0,r0,rfl,q0⟩:=jlj hl;cases List.eq_nil_of_length_eq_zero q0;exact h a0
theorem jE7{fd:FuncData}{p0 p1:Str}(h:∀ a0 a1:Value,bindArgs fd ⟨[a0,a1],[]⟩=pure ([p0,p1].zip [a0,a1]))(us:List Value)(hl:us.length=([p0,p1]:List Str).length):bindArgs fd ⟨us,[]⟩=pure ([p0,p1].zip us):=by
 obtain⟨a0,r0,rfl,q0⟩:=jlj hl;obtain⟨a1,r1,rfl,q1⟩:=jlj q0;cases List.eq_nil_of_length_eq_zero q1;exact h a0 a1
theorem jE8{fd:FuncData}{p0 p1 p2:Str}(h:∀ a0 a1 a2:Value,bindArgs fd ⟨[a0,a1,a2],[]⟩=pure ([p0,p1,p2].zip [a0,a1,a2]))(us:List Value)(hl:us.length=([p0,p1,p2]:List Str).length):bindArgs fd ⟨us,[]⟩=pure ([p0,p1,p2].zip us):=by
 obtain⟨a0,r0,rfl,q0⟩:=jlj hl;obtain⟨a1,r1,rfl,q1⟩:=jlj q0;obtain⟨a2,r2,rfl,q2⟩:=jlj q1;cases List.eq_nil_of_length_eq_zero q2;exact h a0 a1 a2
theorem jE9{fd:FuncData}{p0 p1 p2 p3:Str}(h:∀ a0 a1 a2 a3:Value,bindArgs fd ⟨[a0,a1,a2,a3],[]⟩=pure ([p0,p1,p2,p3].zip [a0,a1,a2,a3]))(us:List Value)(hl:us.length=([p0,p1,p2,p3]:List Str).length):bindArgs fd ⟨us,[]⟩=pure ([p0,p1,p2,p3].zip us):=by
 obtain⟨a0,r0,rfl,q0⟩:=jlj hl;obtain⟨a1,r1,rfl,q1⟩:=jlj q0;obtain⟨a2,r2,rfl,q2⟩:=jlj q1;obtain⟨a3,r3,rfl,q3⟩:=jlj q2;cases List.eq_nil_of_length_eq_zero q3;exact h a0 a1 a2 a3
inductive Fct(K:W.Frag)(x:Str)(s:Stmt):Prop
 | mk {f:Addr} {oc kV dc pm cd ct:Value} {od an:Option Addr} {sl:qg} (a:W.nsIn K mainGlobals x=some (some (.ref f))) (l:K.lookup f=some ⟨oc,od,.func (W.fnOf x x (jdj s) (jbp s) (jae s) .none kV dc pm an cd ct),sl⟩) (c:W.codeIn K cd x=true) (k:W.keepIn K (.ref f)=true):Fct K x s
theorem fct1{K:W.Frag}{h:Heap}{mg:qc}{x:Str}{s:Stmt}{p0:Str}(X:K.In h)(G:h.Ns mainGlobals mg)(q:∀ (kV dc pm:Value) (an:Option Addr) (cd ct a0:Value),bindArgs (W.fnOf x x (jdj s) (jbp s) (jae s) .none kV dc pm an cd ct) ⟨[a0],[]⟩=pure ([p0].zip [a0]))(F:Fct K x s):jbh K mg x s [p0]:=by
 obtain⟨a,l,c,k⟩:=F;exact jjp X G (fun kV dc pm an cd ct=>jE6 (q kV dc pm an cd ct)) a l c k
theorem fct2{K:W.Frag}{h:Heap}{mg:qc}{x:Str}{s:Stmt}{p0 p1:Str}(X:K.In h)(G:h.Ns mainGlobals mg)(q:∀ (kV dc pm:Value) (an:Option Addr) (cd ct a0 a1:Value),bindArgs (W.fnOf x x (jdj s) (jbp s) (jae s) .none kV dc pm an cd ct) ⟨[a0,a1],[]⟩=pure ([p0,p1].zip [a0,a1]))(F:Fct K x s):jbh K mg x s [p0,p1]:=by
 obtain⟨a,l,c,k⟩:=F;exact jjp X G (fun kV dc pm an cd ct=>jE7 (q kV dc pm an cd ct)) a l c k
theorem fct3{K:W.Frag}{h:Heap}{mg:qc}{x:Str}{s:Stmt}{p0 p1 p2:Str}(X:K.In h)(G:h.Ns mainGlobals mg)(q:∀ (kV dc pm:Value) (an:Option Addr) (cd ct a0 a1 a2:Value),bindArgs (W.fnOf x x (jdj s) (jbp s) (jae s) .none kV dc pm an cd ct) ⟨[a0,a1,a2],[]⟩=pure ([p0,p1,p2].zip [a0,a1,a2]))(F:Fct K x s):jbh K mg x s [p0,p1,p2]:=by
 obtain⟨a,l,c,k⟩:=F;exact jjp X G (fun kV dc pm an cd ct=>jE8 (q kV dc pm an cd ct)) a l c k
theorem fct4{K:W.Frag}{h:Heap}{mg:qc}{x:Str}{s:Stmt}{p0 p1 p2 p3:Str}(X:K.In h)(G:h.Ns mainGlobals mg)(q:∀ (kV dc pm:Value) (an:Option Addr) (cd ct a0 a1 a2 a3:Value),bindArgs (W.fnOf x x (jdj s) (jbp s) (jae s) .none kV dc pm an cd ct) ⟨[a0,a1,a2,a3],[]⟩=pure ([p0,p1,p2,p3].zip [a0,a1,a2,a3]))(F:Fct K x s):jbh K mg x s [p0,p1,p2,p3]:=by
 obtain⟨a,l,c,k⟩:=F;exact jjp X G (fun kV dc pm an cd ct=>jE9 (q kV dc pm an cd ct)) a l c k
theorem txt_mk{K:W.Frag}{h:Heap}{mg:qc}(X:K.In h)(G:h.Ns mainGlobals mg)
    (h0:Fct K "_law_cell_at" jds)
    (h1:Fct K "_law_mix" jim)
    (h2:Fct K "_law_draw" jg4)
    (h3:Fct K "_law_name" jg5)
    (h4:Fct K "_law_items" jfp)
    (h5:Fct K "_law_rules" jc4)
    (h6:Fct K "_law_deeds" jfn)
    (h7:Fct K "_law_book" jg3)
    (h8:Fct K "first_rows" jer)
    (h9:Fct K "common_part" jdr)
    (h10:Fct K "fraction" jg1)
    (h11:Fct K "is_less" jik)
    (h12:Fct K "between" jij)
    (h13:Fct K "value_at" jg7)
    (h14:Fct K "bound_by" jg0)
    (h15:Fct K "number_for" jdh)
    (h16:Fct K "point_by" jg6)
    (h17:Fct K "places_used" jdt)
    (h18:Fct K "is_less_of" jdf)
    (h19:Fct K "needed" jin)
    (h20:Fct K "joined" jg2)
    (h21:Fct K "weighted_sum" jch)
    (h22:Fct K "weighted" jc5)
    (h23:Fct K "taken_out" jcl)
    (h24:Fct K "is_enough" jfm)
    (h25:Fct K "solved" jjv)
    (h26:Fct K "kept_by" jil)
    (h27:Fct K "broken_by" jd7)
    (h28:Fct K "needless" je7)
    (h29:Fct K "counted" jgh)
    (h30:Fct K "_law_starts" jdg)
    (h31:Fct K "_law_spare" jd8)
    (h32:Fct K "_law_holds" jfo)
    (h33:Fct K "_law_whole" jfq)
    (h34:Fct K "_law_is_point" jda)
    (h35:Fct K "_law_breaks" jes)
    (h36:Fct K "law" jp1)
    (z0:W.nsIn K mainGlobals "abs"=some none)
    (z1:W.nsIn K mainGlobals "all"=some none)
    (z2:W.nsIn K mainGlobals "any"=some none)
    (z3:W.nsIn K mainGlobals "bool"=some none)
    (z4:W.nsIn K mainGlobals "enumerate"=some none)
    (z5:W.nsIn K mainGlobals "int"=some none)
    (z6:W.nsIn K mainGlobals "isinstance"=some none)
    (z7:W.nsIn K mainGlobals "len"=some none)
    (z8:W.nsIn K mainGlobals "list"=some none)
    (z9:W.nsIn K mainGlobals "range"=some none)
    (z10:W.nsIn K mainGlobals "sum"=some none)
    (z11:W.nsIn K mainGlobals "tuple"=some none)
    (z12:W.nsIn K mainGlobals "zip"=some none):Txt K mg :=
  ⟨fct2 X G (fun _ _ _ _ _ _ _ _=>rfl) h0,
   fct2 X G (fun _ _ _ _ _ _ _ _=>rfl) h1,
   fct4 X G (fun _ _ _ _ _ _ _ _ _ _=>rfl) h2,
   fct2 X G (fun _ _ _ _ _ _ _ _=>rfl) h3,
   fct1 X G (fun _ _ _ _ _ _ _=>rfl) h4,
   fct2 X G (fun _ _ _ _ _ _ _ _=>rfl) h5,
   fct2 X G (fun _ _ _ _ _ _ _ _=>rfl) h6,
   fct1 X G (fun _ _ _ _ _ _ _=>rfl) h7,
   fct1 X G (fun _ _ _ _ _ _ _=>rfl) h8,
   fct2 X G (fun _ _ _ _ _ _ _ _=>rfl) h9,
   fct2 X G (fun _ _ _ _ _ _ _ _=>rfl) h10,
   fct2 X G (fun _ _ _ _ _ _ _ _=>rfl) h11,
   fct2 X G (fun _ _ _ _ _ _ _ _=>rfl) h12,
   fct3 X G (fun _ _ _ _ _ _ _ _ _=>rfl) h13,
   fct3 X G (fun _ _ _ _ _ _ _ _ _=>rfl) h14,
   fct3 X G (fun _ _ _ _ _ _ _ _ _=>rfl) h15,
   fct2 X G (fun _ _ _ _ _ _ _ _=>rfl) h16,
   fct1 X G (fun _ _ _ _ _ _ _=>rfl) h17,
   fct2 X G (fun _ _ _ _ _ _ _ _=>rfl) h18,
   fct1 X G (fun _ _ _ _ _ _ _=>rfl) h19,
   fct3 X G (fun _ _ _ _ _ _ _ _ _=>rfl) h20,
   fct2 X G (fun _ _ _ _ _ _ _ _=>rfl) h21,
   fct3 X G (fun _ _ _ _ _ _ _ _ _=>rfl) h22,
   fct3 X G (fun _ _ _ _ _ _ _ _ _=>rfl) h23,
   fct2 X G (fun _ _ _ _ _ _ _ _=>rfl) h24,
   fct2 X G (fun _ _ _ _ _ _ _ _=>rfl) h25,
   fct1 X G (fun _ _ _ _ _ _ _=>rfl) h26,
   fct1 X G (fun _ _ _ _ _ _ _=>rfl) h27,
   fct3 X G (fun _ _ _ _ _ _ _ _ _=>rfl) h28,
   fct1 X G (fun _ _ _ _ _ _ _=>rfl) h29,
   fct1 X G (fun _ _ _ _ _ _ _=>rfl) h30,
   fct3 X G (fun _ _ _ _ _ _ _ _ _=>rfl) h31,
   fct2 X G (fun _ _ _ _ _ _ _ _=>rfl) h32,
   fct1 X G (fun _ _ _ _ _ _ _=>rfl) h33,
   fct2 X G (fun _ _ _ _ _ _ _ _=>rfl) h34,
   fct4 X G (fun _ _ _ _ _ _ _ _ _ _=>rfl) h35,
   fct1 X G (fun _ _ _ _ _ _ _=>rfl) h36,
   W.mg_none_of X G z0,
   W.mg_none_of X G z1,
   W.mg_none_of X G z2,
   W.mg_none_of X G z3,
   W.mg_none_of X G z4,
   W.mg_none_of X G z5,
   W.mg_none_of X G z6,
   W.mg_none_of X G z7,
   W.mg_none_of X G z8,
   W.mg_none_of X G z9,
   W.mg_none_of X G z10,
   W.mg_none_of X G z11,
   W.mg_none_of X G z12⟩
theorem walk{l:W.OpenLaw}{q:Program}{loose:List Str}{XP:(qc)->Heap->Prop}{YP:World->Heap->Prop}{d:DefRec}{K:Params->W.Frag}(hn:l.most=some 63)(hdf:d.params.defaults=[])
  (hY:∀ (w:World) (h:Heap),YP w h->(K w.params).In h)
  (F:∀ (w:World) (mg:qc) (fa:Addr) (h:Heap),(K w.params).In h->h.Ns mainGlobals mg->mg d.name=some (.ref fa)->Txt (K w.params) mg/\mg "law"=some (.ref fa))
  (hm:∀ ns:List Int,ns.length<=63->∃ Ω,jt6 [.lst (ns.map .int)] []=some (.ok (.bl true),Ω)) :
  W.WalkO q loose XP YP l.row.toRowW d [] (fun f vs=>PySem.call f vs) :=
 L2.walk_of (n:=63) (k:=10) (x:="_law_script") (CX:=fun _=>CX0) (sp:=fun w=>spA (K w.params) 1 jt6) hn (by decide) hdf ⟨rfl,by decide,by decide⟩ hY
  (fun w mg fa h KX G hmg=>by
   obtain⟨T,hf⟩:=F w mg fa h KX G hmg;obtain⟨fd,FF,hb⟩:=jte T.f_law hf (fun _ _ _ _ _ _ _ _=>.of_eq rfl);exact⟨fd,hb,fun base _ _=>(fn_E FF sc_law (jvk T)).imp fun vs H Q E z=>z mg⟩)
  (fun _ _ a ns hl _ hS=>fun mg=>let ⟨Ω,e⟩:=hm ns hl;jzh hS e) fun _ _ _ _ _ z=>z
theorem jxk{q:Program}{loose:List Str}{XP:(qc)->Heap->Prop}{K:Params->W.Frag}{as:List Addr}{n t:Nat}{r:W.RowW}{d:DefRec}{kwd:List (Str×Expr)}{run:Value->List Value->Sem Value}
  (he:∀ P,as=(K P).map (·.1)) (h:W.WalkO q loose XP (fun w h=>(K w.params).In h) r d kwd run):W.WalkX q loose XP (W.X.obsZ as) (W.X.valZ K n t) r d kwd run:=by
 intro w s₀ s₁ mg mb G y a o pm cd doc dV kV ho hd hcd hD hmg hg args vals as' L;refine h w s₀ s₁ mg mb G ?_ a o pm cd doc dV kV ho hd hcd hD hmg hg args vals as';have e:(K w.params).In s₀.heap:=(W.X.z_facts he y).2.1;exact fun b o' q=>L.keeps b o' (e b o' q)
theorem walkZ{l:W.OpenLaw}{q:Program}{loose:List Str}{XP:(qc)->Heap->Prop}{d:DefRec}{K:Params->W.Frag}{as:List Addr}{n t:Nat}(he:∀ P,as=(K P).map (·.1))(hn:l.most=some 63)(hdf:d.params.defaults=[])
  (F:∀ (w:World) (mg:qc) (fa:Addr) (h:Heap),(K w.params).In h->h.Ns mainGlobals mg->mg d.name=some (.ref fa)->Txt (K w.params) mg/\mg "law"=some (.ref fa))
  (hm:∀ ns:List Int,ns.length<=63->∃ Ω,jt6 [.lst (ns.map .int)] []=some (.ok (.bl true),Ω)) :
  W.WalkX q loose XP (W.X.obsZ as) (W.X.valZ K n t) l.row.toRowW d [] (fun f vs=>PySem.call f vs) :=
 jxk he (walk (K:=K) hn hdf (fun _ _ y=>y) F hm)
section
structure Rul where
 nm:Str
 cs:List Int
 rest:Int
structure Ded where
 nm:Str
 lo:Int
 hi:Int
 chs:List (Int×Int)
structure Bk where
 its:List (Str×Int)
 rls:List Rul
 dds:List Ded
noncomputable def itD(p:Str×Int):D:=.tup [.str p.1,.int p.2]
def rulD(r:Rul):D:=.tup [.str r.nm,.tup (r.cs.map .int),.int r.rest]
noncomputable def chD(c:Int×Int):D:=.tup [.int c.1,.int c.2]
def dedD(d:Ded):D:=.tup [.str d.nm,.int d.lo,.int d.hi,.tup (d.chs.map chD)]
abbrev itsD(b:Bk):D:=.lst (b.its.map itD)
abbrev rlsD(b:Bk):D:=.lst (b.rls.map rulD)
abbrev ddsD(b:Bk):D:=.lst (b.dds.map dedD)
abbrev bkD(b:Bk):D:=.tup [itsD b,rlsD b,ddsD b]
structure RulOk(its:List (Str×Int))(r:Rul):Prop where
 len:r.cs.length=its.length
 bt:∀ c∈r.cs,Bt 10 c
 rb:Bt 110 r.rest
 st:0<=FM.dt r.cs (its.map (·.2))+r.rest
structure DedOk(d:Ded):Prop where
 len:d.chs.length<=3
 bt:∀ c∈d.chs,c.1.natAbs<=2/\c.2.natAbs<=1
 l1:-1<=d.lo
 l2:d.lo<=2
 h1:d.lo<=d.hi
 h2:d.hi<=d.lo+5
structure BkOk(b:Bk):Prop where
 i3:b.its.length<=3
 r4:b.rls.length<=4
 d1:1<=b.dds.length
 d4:b.dds.length<=4
 st:∀ p∈b.its,p.2.natAbs<=2 ^ 90
 rl:∀ r∈b.rls,RulOk b.its r
 dd:∀ d∈b.dds,DedOk d
theorem jCy{α:Type}(f:α->D)(g:α->Int)(xs:List α)(h:∀ x,f x=.int (g x)):xs.map f=(xs.map g).map .int:=by
 rw[List.map_map];exact List.map_congr_left fun x _=>h x
abbrev Iq:=FM.Iq
noncomputable def iq(q:Iq):D:=.tup [.tup (q.cs.map .int),.int q.r,.bl q.s]
structure IqOk(k u:Nat)(q:Iq):Prop where
 len:q.cs.length=u
 cs:∀ c∈q.cs,Bt k c
 r:Bt k q.r
theorem iq0(q:Iq):gIx (iq q) (.int 0)=some (.tup (q.cs.map .int)):=by unfold iq;rw[ix_t,at0]
theorem iq1(q:Iq):gIx (iq q) (.int 1)=some (.int q.r):=by unfold iq;rw[ix_t,at1]
theorem iq2(q:Iq):gIx (iq q) (.int 2)=some (.bl q.s):=by unfold iq;rw[ix_t,at2]
theorem IqOk.mono{k l u:Nat}{q:Iq}(h:IqOk k u q)(hl:k<=l):IqOk l u q:=⟨h.len,fun c hc=>(h.cs c hc).mono hl,h.r.mono hl⟩
noncomputable abbrev scr(ns:List Int):D:=.lst (ns.map .int)
theorem jEt(ns:List Int)(k:Int)(h0:0<=k):∃ i,jay [scr ns,.int k]=some (.ok (.int i)):=by
 unfold jay;rw[jd0];unfold jfe;obtain⟨k,rfl⟩:=Int.eq_ofNat_of_zero_le h0
 by_cases h:k<ns.length
 ·refine⟨ns[k],?_⟩;have h2:((k:Int)<(ns.length:Int)):=by omega
  simp[h2,DL.atI_get (xs:=ns.map D.int) (j:=k) (v:=.int ns[k]) (by simp[h]),M.p]
 ·refine⟨0,?_⟩;have h2:¬ ((k:Int)<(ns.length:Int)):=by omega
  simp[h2,M.p]
noncomputable def gI(m:M D):Int:=match m with
 | some (.ok (.int i))=>i
 | _=>0
theorem jy4{m:M D}{i:Int}(h:m=some (.ok (.int i))):m=some (.ok (.int (gI m))):=by rw[h];rfl
def jka(ns:List Int)(k:Int):Int:=gI (jay [scr ns,.int k])
theorem jfv{ns:List Int}{k:Int}(h0:0<=k):jay [scr ns,.int k]=some (.ok (.int (jka ns k))):=let ⟨_,h⟩:=jEt ns k h0;jy4 h
theorem jDe:gPow (.int 10) (.int 12)=some (.int 1000000000000):=by rw[jus (by decide)];rfl
theorem jEv(n p:Int)(h0:0<=p)(hp:p<=1000):∃ r,jde [.int n,.int p]=some (.ok (.int r))/\0<=r/\r<2147483648:=by
 unfold jde;rw[jd0];unfold jkj
 by_cases h:1000000000000<=n
 ·obtain⟨Y',e,i⟩:=jmp (g:=jgl) (tg:=DL.gName 2) (fun _ Y=>∃ a b,Y=[some (.int a),some (.int p),b,none])
   (fun d ds Y ⟨a,b,hd⟩=>by
    subst hd;refine⟨_,rfl,[some (.int (a / 2147483648)),some (.int p),some d,none],.inl ?_,_,_,rfl⟩;simp[jgl,jb6 (i:=a) (j:=2147483648) (by decide) (by decide),M.p])
   (jap 0 (p % 61).toNat) [some (.int (n / 1000000000000-1)),some (.int p),none,none] ⟨_,_,rfl⟩
  obtain⟨a,b,rfl⟩:=i;refine⟨a % 2147483648,?_,zdw _ (by decide),zda _ (by decide)⟩;have e':forD jgl (DL.gName 2) (jap 0 (p % 61).toNat) [some (.int (n / 1000000000000-1)),some (.int p),none,none]=M.p (.nx [some (.int a),some (.int p),b,none]):=e;simp[jDe,h,jb6 (i:=n) (j:=1000000000000) (by decide) (by decide),jba (i:=p) (j:=61) (by decide),jba (i:=a) (j:=2147483648) (by decide),e',List.replicate];rfl
 ·have h1:=zdw n (show (1000003:Int)≠0 by decide);have h2:=zda n (show (0:Int)<1000003 by decide);have bp:Bt 10 p:=by unfold Bt;omega
  have a1:jbj (.int p) (.int p)=some (.int (p*p)):=ja6 bp bp;have b1:Bt 20 (p*p):=bp.mul bp;have a2:jbj (.int (p*p)) (.int 7919)=some (.int (p*p*7919)):=ja6 (b:=13) b1 (by unfold Bt;decide);have b2:Bt 33 (p*p*7919):=Bt.mul (b:=13) b1 (by unfold Bt;decide);have b3:Bt 35 (n % 1000003+p*p*7919+p):=(Bt.add (a:=33) (by unfold Bt;omega) b2).add (bp.mono (by decide));have a3:jbj (.int (n % 1000003+p*p*7919+p)) (.int 48271)=some (.int ((n % 1000003+p*p*7919+p)*48271)):=ja6 (b:=16) b3 (by unfold Bt;decide);generalize hx:(n % 1000003+p*p*7919+p)*48271 % 2147483629=x;have x1:0<=x:=by rw[<- hx];exact zdw _ (by decide)
  have x2:x<2147483629:=by rw[<- hx];exact zda _ (by decide)
  have bx:Bt 32 x:=by unfold Bt;omega
  have a4:jbj (.int x) (.int x)=some (.int (x*x)):=ja6 bx bx;generalize hy:x*x % 2147483587=y;have y1:0<=y:=by rw[<- hy];exact zdw _ (by decide)
  have y2:y<2147483587:=by rw[<- hy];exact zda _ (by decide)
  have by':Bt 32 y:=by unfold Bt;omega
  have a5:jbj (.int y) (.int (y+2))=some (.int (y*(y+2))):=ja6 by' (by'.add (show Bt 32 2 by unfold Bt;decide));generalize hz:y*(y+2) % 2147483579=z;have z1:0<=z:=by rw[<- hz];exact zdw _ (by decide)
  have z2:z<2147483579:=by rw[<- hz];exact zda _ (by decide)
  refine⟨z / 7,?_,by omega,by omega⟩;simp[jDe,h,jba (i:=n) (j:=1000003) (by decide),a1,a2,a3,jba (i:=(n % 1000003+p*p*7919+p)*48271) (j:=2147483629) (by decide),hx,a4,jba (i:=x*x) (j:=2147483587) (by decide),hy,a5,jba (i:=y*(y+2)) (j:=2147483579) (by decide),hz,jb6 (i:=z) (j:=7) (by decide) (by decide),List.replicate];rfl
def mixF(n p:Int):Int:=gI (jde [.int n,.int p])
theorem jA0{n p:Int}(h0:0<=p)(hp:p<=1000):jde [.int n,.int p]=some (.ok (.int (mixF n p))):=let ⟨_,h,_⟩:=jEv n p h0 hp;jy4 h
theorem jD2{n p:Int}(h0:0<=p)(hp:p<=1000):0<=mixF n p:=by
 obtain⟨r,h,q,_⟩:=jEv n p h0 hp;unfold mixF;rw[h];exact q
theorem jEu(ns:List Int){p g k:Int}(hp:0<=p)(hg:0<=g)(h0:0<=k)(hk:k<=1000):∃ r,jbx [scr ns,.int p,.int g,.int k]=some (.ok (.int r))/\0<=r:=by
 have cp:=jfv (ns:=ns) (k:=p) hp;have c0:=jfv (ns:=ns) (k:=0) (by decide);generalize jka ns p=x at cp;generalize jka ns 0=y at c0;have e2:=jba (i:=y) (j:=2) (by decide);have t0:t2 gEq (f2 gMod (ja2 jay (jac (fVar 0) (jac (fC (.int 0)) fNil))) (fC (.int 2))) (fC (.int 0)) [some (scr ns),some (.int p),some (.int g),some (.int k),some (.int x),none]=some (.ok (y % 2 == 0)):=by
  simp only[stp,c0,e2];rfl
 unfold jbx;rw[jxw];show ∃ r,(jgr [some (scr ns),some (.int p),some (.int g),some (.int k),none,none]).b outD=_/\_;unfold jgr;rw[ja5 (Y':=[some (scr ns),some (.int p),some (.int g),some (.int k),some (.int x),none]) (by simp only[stp,cp];rfl)]
 cases hc:(y % 2 == 0) with
 | true =>
  have mx:=jA0 (n:=x) (p:=k) h0 hk;refine⟨mixF x k,?_,jD2 h0 hk⟩;rw[joy (d:=.int (mixF x k)) (by rw[t0,hc]) (by simp only[stp,mx])];rfl
 | false =>
  rw[jgk (by rw[t0,hc])];obtain⟨Y',e,i⟩:=jmp (g:=jhe) (tg:=DL.gName 5) (fun _ Y=>∃ a b,Y=[some (scr ns),some (.int p),some (.int g),some (.int k),some (.int a),b])
   (fun d ds Y ⟨a,b,hd⟩=>by
    subst hd;refine⟨_,rfl,[some (scr ns),some (.int p),some (.int g),some (.int k),some (.int (a / 1000)),some d],.inl ?_,_,_,rfl⟩;unfold jhe;simp only[stp,jb6 (i:=a) (j:=1000) (by decide) (by decide)];rfl)
   (jap 0 g.toNat) [some (scr ns),some (.int p),some (.int g),some (.int k),some (.int x),none] ⟨_,_,rfl⟩
  obtain⟨a,b,rfl⟩:=i;refine⟨a % 1000,?_,zdw _ (by decide)⟩;rw[ja5 (show gFor _ _ _ _=some (.ok (.nx _)) from by rw[jew (ds:=jap 0 g.toNat) (by simp only[stp];rfl)];exact e)];rw[jjn (d:=.int (a % 1000)) (by simp only[stp,jba (i:=a) (j:=1000) (by decide)];rfl)];rfl
def jrs(ns:List Int)(p g k:Int):Int:=gI (jbx [scr ns,.int p,.int g,.int k])
theorem jox{ns:List Int}{p g k:Int}(hp:0<=p)(hg:0<=g)(h0:0<=k)(hk:k<=1000):jbx [scr ns,.int p,.int g,.int k]=some (.ok (.int (jrs ns p g k))):=let ⟨_,h,_⟩:=jEu ns hp hg h0 hk;jy4 h
noncomputable def isSt:Option D->Bool
 | some (.str _)=>true
 | _=>false
theorem jza{d:Option D}(h:isSt d=true):∃ s,d=some (.str s):=by
 unfold isSt at h
 split at h
 ·exact⟨_,rfl⟩
 ·cases h
def jC4(k m q:Nat):Option D:=(gIx (.str "abcdefghijklmnop") (.int k)).bind fun c=>(jbj c (.int (1+(m:Int)))).bind fun x=>(gIx (.str "xyz") (.int q)).bind fun y=>gCat x y
theorem jwn:∀ k∈List.range 16,∀ m∈List.range 9,∀ q∈List.range 3,isSt (jC4 k m q)=true:=by decide +kernel
theorem jpp(ns:List Int){k:Nat}(hk:k<16):∃ s,jcn [scr ns,.int (k:Nat)]=some (.ok (.str s)):=by
 have c:=jfv (ns:=ns) (k:=4) (by decide);have mx:=jA0 (n:=jka ns 4) (p:=200+(k:Int)) (by omega) (by omega);have m0:=jD2 (n:=jka ns 4) (p:=200+(k:Int)) (by omega) (by omega);generalize mixF (jka ns 4) (200+(k:Int))=m at mx m0;have r1:=zdw m (show (9:Int)≠0 by decide);have r2:=zda m (show (0:Int)<9 by decide);have r3:=zdw (m / 9) (show (3:Int)≠0 by decide);have r4:=zda (m / 9) (show (0:Int)<3 by decide);have e1:=jba (i:=m) (j:=9) (by decide);have e2:=jb6 (i:=m) (j:=9) (by decide) (by decide);have e3:=jba (i:=m / 9) (j:=3) (by decide);obtain⟨a,ha⟩:=Int.eq_ofNat_of_zero_le r1;obtain⟨q,hq⟩:=Int.eq_ofNat_of_zero_le r3;rw[ha] at e1 r2;rw[hq] at e3 r4;obtain⟨s,hs⟩:=jza (jwn k (zdc.mpr hk) a (zdc.mpr (by omega)) q (zdc.mpr (by omega)));refine⟨s,?_⟩;unfold jC4 at hs;obtain⟨x1,f1,hs⟩:=Option.bind_eq_some_iff.mp hs;obtain⟨x2,f2',hs⟩:=Option.bind_eq_some_iff.mp hs;obtain⟨x3,f3,hs⟩:=Option.bind_eq_some_iff.mp hs;unfold jcn;rw[jd0];unfold jiu;simp only[stp,c,mx,e1,e2,e3,f1,f2',f3,hs,Nat.reduceSub];rfl
end
section
theorem jGe:gPow (.int 10) (.int 25)=some (.int 10000000000000000000000000):=by rw[jus (by decide)];rfl
theorem range_len(n:Nat):(jap 0 n).length=n:=by unfold jap;rw[zav,List.length_range]
theorem je6{n j:Nat}(h:j<(jap 0 n).length):(jap 0 n)[j]=.int (j:Nat):=by
 simp[jap]
theorem jwe(ns:List Int):∃ its:List (Str×Int),jfj [scr ns]=some (.ok (.lst (its.map itD)))/\its.length<=3/\∀ p∈its,p.2.natAbs<=2 ^ 90:=by
 have c0:=jfv (ns:=ns) (k:=0) (by decide);generalize jka ns 0=m0 at c0;have mx:=jb6 (i:=m0) (j:=2) (by decide) (by decide);generalize m0 / 2=m at mx;have r1:=zdw m (show (3:Int)≠0 by decide);have r2:=zda m (show (0:Int)<3 by decide);have e3:=jba (i:=m) (j:=3) (by decide);generalize m % 3=r at r1 r2 e3;obtain⟨N,hN⟩:∃ N:Nat,1+r=(N:Int):=⟨(1+r).toNat,by omega⟩
 have c1:=jfv (ns:=ns) (k:=1) (by decide);obtain⟨Y',e,its,k',a,c,rfl,hl,hb⟩:=jf9 (g:=jf0) (tg:=DL.gName 2) (jap 0 N) (fun j Y=>∃ (its:List (Str×Int)) (k a c:Option D),Y=[some (scr ns),some (.lst (its.map itD)),k,a,c]/\its.length=j/\∀ p∈its,p.2.natAbs<=2 ^ 90)
  (fun j hj Y ⟨its,k,a,c,hδ,hl,hb⟩=>by
   subst hδ;rw[range_len] at hj;have mx1:=jox (ns:=ns) (p:=1) (g:=(j:Int)) (k:=10+(j:Int)) (by decide) (by omega) (by omega) (by omega);generalize jrs ns 1 (j:Int) (10+(j:Int))=d at mx1;obtain⟨s,hs⟩:=jpp ns (k:=j) (by omega);have f1:=jba (i:=d) (j:=41) (by decide);have f2':=jb6 (i:=d) (j:=41) (by decide) (by decide);have f3:=jba (i:=d / 41) (j:=8) (by decide);have q1:=zdw d (show (41:Int)≠0 by decide);have q2:=zda d (show (0:Int)<41 by decide);have e2:(2:Nat) ^ 90=1237940039285380274899124224:=by decide
   have la:(its.map itD).length<=100000:=by rw[zav];omega
   refine⟨[some (scr ns),some (.lst (its.map itD)),some (.int (j:Nat)),a,c],by rw[je6];rfl,?_⟩
   let st:Int:=if d / 41 % 8=1 then d % 41-10+10000000000000000000000000 else d % 41-10
   refine⟨[some (scr ns),some (.lst ((its++[(s,st)]).map itD)),some (.int (j:Nat)),some (.int d),some (.int st)],.inl ?_,its++[(s,st)],_,_,_,rfl,by rw[zdb,hl];rfl,fun p hp=>?_⟩
   ·unfold jf0;rw[ja5 (Y':=[some (scr ns),some (.lst (its.map itD)),some (.int (j:Nat)),some (.int d),c]) (jfy 3 (by simp only[stp,c1,mx1]<;>rfl)),
     ja5 (Y':=[some (scr ns),some (.lst (its.map itD)),some (.int (j:Nat)),some (.int d),some (.int (d % 41-10))]) (jfy 4 (by simp only[stp,f1]<;>rfl)),
     ja5 (Y':=[some (scr ns),some (.lst (its.map itD)),some (.int (j:Nat)),some (.int d),some (.int st)]) ?_]
    ·rw[jm8 (d:=itD (s,st)) (ds:=its.map itD) 1 (by simp only[stp,hs]<;>rfl) rfl la];rw[List.map_append];rfl
    ·have ht:t2 gEq (f2 gMod (f2 jd1 (fVar 3) (fC (.int 41))) (fC (.int 8))) (fC (.int 1)) [some (scr ns),some (.lst (its.map itD)),some (.int (j:Nat)),some (.int d),some (.int (d % 41-10))]=some (.ok (decide (d / 41 % 8=1))):=by
      simp only[stp,f2',f3];rfl
     rw[w_if ht]
     by_cases h:d / 41 % 8=1
     ·rw[if_pos (by simpa using h),jfy (d:=.int (d % 41-10+10000000000000000000000000)) 4 (by simp only[stp,jGe]<;>rfl)];simp only[st,if_pos h];rfl
     ·rw[if_neg (by simpa using h)];simp only[st,if_neg h];rfl
   ·rcases zey.mp hp with hp|hp
    ·exact hb p hp
    ·rw[zex] at hp;subst hp;show st.natAbs<=_;simp only[st];rw[e2]
     split<;>omega) [some (scr ns),some (.lst []),none,none,none] ⟨[],none,none,none,rfl,rfl,fun p hp=>by cases hp⟩
 rw[range_len] at hl;refine⟨its,?_,by omega,hb⟩;unfold jfj;rw[jjc];unfold jho;rw[ja5 (Y':=[some (scr ns),some (.lst []),none,none,none]) (jfy 1 rfl),
  ja5 (Y':=[some (scr ns),some (.lst (its.map itD)),k',a,c]) (by rw[jew (ds:=jap 0 N) (by simp only[stp,c0,mx,e3,hN]<;>rfl)];exact e),jjn (d:=.lst (its.map itD)) rfl]
 rfl
theorem jGk{r:Int}(h0:0<=r)(h1:r<8):∃ v:Int,gIx (.lst [.int 0,.int 1,.int 1,.int (-1),.int 2,.int 0,.int 1,.int (-2)]) (.int r)=some (.int v)/\v.natAbs<=2:=by
 obtain⟨n,rfl⟩:=Int.eq_ofNat_of_zero_le h0;have hn:n<8:=by omega
 match n,hn with
 | 0,_=>exact⟨_,rfl,by decide⟩
 | 1,_=>exact⟨_,rfl,by decide⟩
 | 2,_=>exact⟨_,rfl,by decide⟩
 | 3,_=>exact⟨_,rfl,by decide⟩
 | 4,_=>exact⟨_,rfl,by decide⟩
 | 5,_=>exact⟨_,rfl,by decide⟩
 | 6,_=>exact⟨_,rfl,by decide⟩
 | 7,_=>exact⟨_,rfl,by decide⟩
abbrev r8(ns:List Int)(its:List (Str×Int))(rls:List Rul)(k a b c d:Option D):DSt:=[some (scr ns),some (.lst (its.map itD)),some (.lst (rls.map rulD)),k,a,b,c,d]
theorem jsw(ns:List Int){its:List (Str×Int)}(hi:its.length<=3)(rls:List Rul){k:Nat}(hk:k<=4)(b c d:Option D):∃ (cs:List Int) (b':Option D),forD jec (DL.gName 5) (jap 0 its.length) (r8 ns its rls (some (.int (k:Nat))) (some (.lst [])) b c d)=some (.ok (.nx (r8 ns its rls (some (.int (k:Nat))) (some (.lst (cs.map .int))) b' c d)))/\cs.length=its.length/\∀ x∈cs,x.natAbs<=2:=by
 have c2:=jfv (ns:=ns) (k:=2) (by decide);have a3:jbj (.int 3) (.int (k:Nat))=some (.int (3*(k:Nat))):=ja6 (a:=10) (b:=10) (by unfold Bt;decide) (by unfold Bt;omega);have a5:jbj (.int 5) (.int (k:Nat))=some (.int (5*(k:Nat))):=ja6 (a:=10) (b:=10) (by unfold Bt;decide) (by unfold Bt;omega);obtain⟨Y',e,cs,b',rfl,hl,hb⟩:=jf9 (g:=jec) (tg:=DL.gName 5) (jap 0 its.length) (fun j Y=>∃ (cs:List Int) (b':Option D),Y=r8 ns its rls (some (.int (k:Nat))) (some (.lst (cs.map .int))) b' c d/\cs.length=j/\∀ x∈cs,x.natAbs<=2)
  (fun j hj Y ⟨cs,b',hδ,hl,hb⟩=>by
   subst hδ;rw[range_len] at hj;have mx:=jox (ns:=ns) (p:=2) (g:=3*(k:Nat)+(j:Nat)) (k:=20+5*(k:Nat)+(j:Nat)) (by decide) (by omega) (by omega) (by omega);generalize jrs ns 2 (3*(k:Nat)+(j:Nat)) (20+5*(k:Nat)+(j:Nat))=m at mx;have e8:=jba (i:=m) (j:=8) (by decide);obtain⟨v,hv,hv2⟩:=jGk (zdw m (show (8:Int)≠0 by decide)) (zda m (show (0:Int)<8 by decide));have l8:∀ Y,fL jbi (jac (fC (.int 0)) (jac (fC (.int 1)) (jac (fC (.int 1)) (jac (f1 gNeg (fC (.int 1))) (jac (fC (.int 2)) (jac (fC (.int 0)) (jac (fC (.int 1)) (jac (f1 gNeg (fC (.int 2))) fNil)))))))) Y=some (.ok (.lst [.int 0,.int 1,.int 1,.int (-1),.int 2,.int 0,.int 1,.int (-2)])):=fun _=>rfl
   have la:(cs.map D.int).length<=100000:=by rw[zav];omega
   refine⟨r8 ns its rls (some (.int (k:Nat))) (some (.lst (cs.map .int))) (some (.int (j:Nat))) c d,by rw[je6];rfl,r8 ns its rls (some (.int (k:Nat))) (some (.lst ((cs++[v]).map .int))) (some (.int (j:Nat))) c d,.inl ?_,cs++[v],_,rfl,by rw[zdb,hl];rfl,fun x hx=>?_⟩
   ·unfold jec;rw[jm8 (d:=.int v) (ds:=cs.map .int) 4 ?_ rfl la,List.map_append]
    ·rfl
    ·rw[e_2,l8,M.b_ok];simp only[stp,c2,a3,a5,mx,e8,hv]<;>rfl
   ·rcases zey.mp hx with hx|hx
    ·exact hb x hx
    ·rw[zex] at hx;rw[hx];exact hv2) (r8 ns its rls (some (.int (k:Nat))) (some (.lst [])) b c d) ⟨[],b,rfl,rfl,fun x hx=>by cases hx⟩
 rw[range_len] at hl;exact⟨cs,b',e,hl,hb⟩
theorem jEk{its:List (Str×Int)}{cs:List Int}(hb:∀ p∈its,p.2.natAbs<=2 ^ 90)(hi:its.length<=3)(h2:∀ x∈cs,x.natAbs<=100):((cs.zip its).map fun p:Int×Str×Int=>p.1*p.2.2).sum.natAbs<=2 ^ 105:=by
 have g:∀ (zs:List (Int×Str×Int)),(∀ z∈zs,z.1.natAbs<=100/\z.2.2.natAbs<=2 ^ 90)->(zs.map fun p:Int×Str×Int=>p.1*p.2.2).sum.natAbs<=zs.length*(100*2 ^ 90):=by
  intro zs
  induction zs with
  | nil=>intro _;simp
  | cons z zs ih =>
   intro h;obtain⟨z1,z2⟩:=h z zaa;have i:=ih fun y hy=>h y (zaw _ hy)
   rw[List.map_cons,List.sum_cons,List.length_cons,Nat.succ_mul];have m:(z.1*z.2.2).natAbs<=100*2 ^ 90:=by rw[Int.natAbs_mul];exact Nat.mul_le_mul z1 z2
   have:=Int.natAbs_add_le (z.1*z.2.2) (zs.map fun p:Int×Str×Int=>p.1*p.2.2).sum;omega
 have:=g (cs.zip its) fun z hz=>⟨h2 _ (zdz hz).1,hb _ (zdz hz).2⟩
 have l:(cs.zip its).length<=3:=by rw[List.length_zip];omega
 have l2:=Nat.mul_le_mul_right (100*2 ^ 90) l;have e:(2:Nat) ^ 105 >= 3*(100*2 ^ 90):=by decide
 omega
structure RulAt(its:List (Str×Int))(i:Nat)(r:Rul):Prop where
 len:r.cs.length=its.length
 bt:∀ c∈r.cs,c.natAbs<=2*(i+1)
 rb:Bt 110 r.rest
 st:0<=FM.dt r.cs (its.map (·.2))+r.rest
theorem ju4{ns:List Int}{its:List (Str×Int)}{rls:List Rul}{k:Nat}{cs:List Int}{b d:Option D}{m:Int}(hl:rls.length=k)(hk:k<=3)(hr:∀ i r,rls[i]? = some r->RulAt its i r)(h1:cs.length=its.length)(h3:its.length<=3)(h2:∀ x∈cs,x.natAbs<=2) :
  ∃ cs':List Int,gIf (DL.tAnd (t2 gGt (fVar 3) (fC (.int 1))) (t2 gEq (f2 gMod (fVar 6) (fC (.int 3))) (fC (.int 1)))) (gSet 4 (jce 2 [] (jca jcb (jac (f2 gIx (f2 gIx (fVar 2) (fC (.int 0))) (fC (.int 1))) (jac (f2 gIx (f2 gIx (fVar 2) (fC (.int 1))) (fC (.int 1))) fNil))) (jcq 0 1) tYes jef)) gNx (r8 ns its rls (some (.int (k:Nat))) (some (.lst (cs.map .int))) b (some (.int m)) d) =
   some (.ok (.nx (r8 ns its rls (some (.int (k:Nat))) (some (.lst (cs'.map .int))) b (some (.int m)) d)))/\cs'.length=its.length/\∀ x∈cs',x.natAbs<=2*(k+1):=by
 have e3:=jba (i:=m) (j:=3) (by decide)
 by_cases hk1:1<k
 ·have ht:DL.tAnd (t2 gGt (fVar 3) (fC (.int 1))) (t2 gEq (f2 gMod (fVar 6) (fC (.int 3))) (fC (.int 1))) (r8 ns its rls (some (.int (k:Nat))) (some (.lst (cs.map .int))) b (some (.int m)) d)=some (.ok (decide (m % 3=1))):=by
   have h':decide ((1:Int)<(k:Nat))=true:=decide_eq_true (by omega);simp only[stp,e3,h']<;>rfl
  rw[w_if ht]
  by_cases hm:m % 3=1
  ·rw[if_pos (by simpa using hm)];obtain⟨r0,hr0⟩:∃ r,rls[0]? = some r:=⟨_,zax (by omega)⟩
   obtain⟨r1,hr1⟩:∃ r,rls[1]? = some r:=⟨_,zax (by omega)⟩
   have g0:atI (rls.map rulD) 0=some (rulD r0):=atI_get (j:=0) (by rw[zbb,hr0];rfl);have g1:atI (rls.map rulD) 1=some (rulD r1):=atI_get (j:=1) (by rw[zbb,hr1];rfl);have a0:=hr 0 r0 hr0;have a1:=hr 1 r1 hr1;have ec:=jdz (c:=[]) (fe:=jef) (K:=fun p:Int×Int=>(D.int p.1,D.int p.2)) (F:=fun p=>.int (p.1+p.2)) (r0.cs.zip r1.cs) none none (fun p hp=>by
    unfold jef;simp only[stp]<;>rfl)
   have hm':(r0.cs.zip r1.cs).map (fun p=>D.int (p.1+p.2))=((r0.cs.zip r1.cs).map fun p=>p.1+p.2).map .int:=jCy (fun p:Int×Int=>D.int (p.1+p.2)) (fun p=>p.1+p.2) _ fun _=>rfl
   rw[hm'] at ec;have ll:((r0.cs.zip r1.cs).map fun p=>p.1+p.2).length=its.length:=by rw[zav,List.length_zip,a0.len,a1.len];omega
   have ln:((((r0.cs.zip r1.cs).map fun p=>p.1+p.2)).map D.int).length<=1000:=by rw[zav];omega
   refine⟨(r0.cs.zip r1.cs).map fun p=>p.1+p.2,jfy 4 (d:=.lst (((r0.cs.zip r1.cs).map fun p=>p.1+p.2).map .int)) ?_,ll,fun x hx=>?_⟩
   ·simp only[stp,g0,g1,rulD,ec,jcz ln]<;>rfl
   ·obtain⟨p,hp,rfl⟩:=zca.mp hx;have z0:=a0.bt p.1 (zdz hp).1;have z1:=a1.bt p.2 (zdz hp).2;omega
  ·rw[if_neg (by simpa using hm)];exact⟨cs,rfl,h1,fun x hx=>zez (h2 x hx) (by omega)⟩
 ·have ht:DL.tAnd (t2 gGt (fVar 3) (fC (.int 1))) (t2 gEq (f2 gMod (fVar 6) (fC (.int 3))) (fC (.int 1))) (r8 ns its rls (some (.int (k:Nat))) (some (.lst (cs.map .int))) b (some (.int m)) d)=some (.ok false):=by
   have h':decide ((1:Int)<(k:Nat))=false:=decide_eq_false (by omega);simp only[stp,h']<;>rfl
  rw[w_if ht,if_neg (by decide)];exact⟨cs,rfl,h1,fun x hx=>zez (h2 x hx) (by omega)⟩
theorem jAj{ns:List Int}{its:List (Str×Int)}{rls:List Rul}{k:Nat}{cs:List Int}{b d:Option D}{m:Int}(hb:∀ p∈its,p.2.natAbs<=2 ^ 90)(hi:its.length<=3)(h2:∀ x∈cs,x.natAbs<=100)(hm0:0<=m / 3 % 30) :
  ∃ v:Int,(Bt 110 v/\0<=FM.dt cs (its.map (·.2))+v)/\gSet 7 (f2 gSub (f2 gMod (f2 jd1 (fVar 6) (fC (.int 3))) (fC (.int 30))) (fL kSum (jac (jce 2 [] (jca jcb (jac (fVar 4) (jac (fVar 1) fNil))) (jcq 0 1) tYes jeg) fNil))) (r8 ns its rls (some (.int (k:Nat))) (some (.lst (cs.map .int))) b (some (.int m)) d)=some (.ok (.nx (r8 ns its rls (some (.int (k:Nat))) (some (.lst (cs.map .int))) b (some (.int m)) (some (.int v))))):=by
 have e1:=jb6 (i:=m) (j:=3) (by decide) (by decide);have e2:=jba (i:=m / 3) (j:=30) (by decide);have ec:=jdz (c:=[]) (fe:=jeg) (K:=fun p:Int×Str×Int=>(D.int p.1,itD p.2)) (F:=fun p=>.int (p.1*p.2.2)) (cs.zip its) none none (fun p hp=>by
  unfold jeg itD;have z1:=h2 p.1 (zdz hp).1;have z2:=hb p.2 (zdz hp).2;have:jbj (.int p.1) (.int p.2.2)=some (.int (p.1*p.2.2)):=ja6 (a:=10) (b:=100) (by unfold Bt;omega) (Nat.lt_of_le_of_lt z2 (by decide));simp only[stp,this]<;>rfl)
 have ln:((cs.zip its).map fun p=>D.int (p.1*p.2.2)).length<=1000:=by rw[zav,List.length_zip];omega
 have hd:((cs.zip its).map fun p=>p.1*p.2.2).sum=FM.dt cs (its.map (·.2)):=by
  unfold FM.dt;rw[List.zip_map_right,List.map_map];rfl
 have hs:=jEk (cs:=cs) hb hi h2;have hm1:=zda (m / 3) (show (0:Int)<30 by decide);refine⟨m / 3 % 30-((cs.zip its).map fun p=>p.1*p.2.2).sum,⟨?_,by rw[hd];omega⟩,jfy 7 ?_⟩
 ·unfold Bt;have e:(2:Nat) ^ 110 > 2 ^ 105+30:=by decide
  omega
 simp only[stp,e1,e2,jk8,ec,jcz ln,jp3]<;>rfl
theorem jw7(ns:List Int){its:List (Str×Int)}(hi:its.length<=3)(hb:∀ p∈its,p.2.natAbs<=2 ^ 90):∃ rls:List Rul,jfk [scr ns,.lst (its.map itD)]=some (.ok (.lst (rls.map rulD)))/\1<=rls.length/\rls.length<=4/\∀ r∈rls,RulOk its r:=by
 have c0:=jfv (ns:=ns) (k:=0) (by decide);generalize jka ns 0=m0 at c0;have mx:=jb6 (i:=m0) (j:=6) (by decide) (by decide);generalize m0 / 6=m at mx;have r1:=zdw m (show (4:Int)≠0 by decide);have r2:=zda m (show (0:Int)<4 by decide);have e3:=jba (i:=m) (j:=4) (by decide);generalize m % 4=r at r1 r2 e3;obtain⟨N,hN⟩:∃ N:Nat,1+r=(N:Int):=⟨(1+r).toNat,by omega⟩
 have c3:=jfv (ns:=ns) (k:=3) (by decide);obtain⟨Y',e,rls,k',a,b,c,d,rfl,hl,hr⟩:=jf9 (g:=jf2) (tg:=DL.gName 3) (jap 0 N) (fun j Y=>∃ (rls:List Rul) (k a b c d:Option D),Y=r8 ns its rls k a b c d/\rls.length=j/\∀ i r,rls[i]? = some r->RulAt its i r)
  (fun j hj Y ⟨rls,k,a,b,c,d,hδ,hl,hr⟩=>by
   subst hδ;rw[range_len] at hj;have j3:j<=3:=by omega
   refine⟨r8 ns its rls (some (.int (j:Nat))) a b c d,by rw[je6];rfl,?_⟩;obtain⟨cs,b',lp,h1,h2⟩:=jsw ns hi rls (k:=j) (by omega) b c d;have mx1:=jox (ns:=ns) (p:=3) (g:=(j:Int)) (k:=50+(j:Int)) (by decide) (by omega) (by omega) (by omega);generalize jrs ns 3 (j:Int) (50+(j:Int))=m1 at mx1;obtain⟨cs',s4,h3,h4⟩:=ju4 (ns:=ns) (its:=its) (b:=b') (d:=d) (m:=m1) hl j3 hr h1 hi h2;obtain⟨v,⟨v1,v2⟩,s5⟩:=jAj (ns:=ns) (rls:=rls) (k:=j) (b:=b') (d:=d) (m:=m1) hb hi (fun x hx=>zez (h4 x hx) (by omega)) (zdw _ (by decide));obtain⟨s,hs⟩:=jpp ns (k:=4+j) (by omega);have hs':jcn [scr ns,.int (4+(j:Int))]=some (.ok (.str s)):=by
    rw[show (4+(j:Int))=((4+j:Nat):Int) by omega];exact hs
   have la:(rls.map rulD).length<=100000:=by rw[zav];omega
   refine⟨r8 ns its (rls++[⟨s,cs',v⟩]) (some (.int (j:Nat))) (some (.lst (cs'.map .int))) b' (some (.int m1)) (some (.int v)),.inl ?_,rls++[⟨s,cs',v⟩],_,_,_,_,_,rfl,by rw[zdb,hl];rfl,fun i r hir=>?_⟩
   ·unfold jf2;rw[ja5 (Y':=r8 ns its rls (some (.int (j:Nat))) (some (.lst [])) b c d) (jfy 4 rfl),
     ja5 (Y':=r8 ns its rls (some (.int (j:Nat))) (some (.lst (cs.map .int))) b' c d) (by rw[jew (ds:=jap 0 its.length) (by simp only[stp,zav]<;>rfl)];exact lp),
     ja5 (Y':=r8 ns its rls (some (.int (j:Nat))) (some (.lst (cs.map .int))) b' (some (.int m1)) d) (jfy 6 (by simp only[stp,c3,mx1]<;>rfl)),
     ja5 s4,ja5 s5,jm8 (d:=rulD ⟨s,cs',v⟩) (ds:=rls.map rulD) 2 (by simp only[stp,hs']<;>rfl) rfl la]
    rw[r8,r8,List.map_append];rfl
   ·by_cases hlt:i<rls.length
    ·rw[List.getElem?_append_left hlt] at hir;exact hr i r hir
    ·rw[List.getElem?_append_right (by omega)] at hir;have hz:i-rls.length=0:=by
      have:=(zbc.mp hir).1;simp at this;omega
     rw[hz] at hir;cases hir;have:i=j:=by omega
     subst this;exact⟨h3,h4,v1,v2⟩) (r8 ns its [] none none none none none) ⟨[],none,none,none,none,none,rfl,rfl,fun i r h=>by simp at h⟩
 rw[range_len] at hl;refine⟨rls,?_,by omega,by omega,fun r hr'=>?_⟩
 ·unfold jfk;rw[jd0];unfold jhp;rw[ja5 (Y':=r8 ns its [] none none none none none) (jfy 2 rfl),
   ja5 (Y':=r8 ns its rls k' a b c d) (by rw[jew (ds:=jap 0 N) (by simp only[stp,c0,mx,e3,hN]<;>rfl)];exact e),jjn (d:=.lst (rls.map rulD)) rfl]
  rfl
 ·obtain⟨i,hi',he⟩:=List.getElem_of_mem hr';have:=hr i r (by rw[zax hi',he]);exact⟨this.len,fun c hc=>by have:=this.bt c hc;unfold Bt;omega,this.rb,this.st⟩
end
section
theorem jGj{r:Int}(h0:0<=r)(h1:r<6):∃ v:Int,gIx (.lst [.int 0,.int 1,.int (-1),.int (-1),.int 2,.int 0]) (.int r)=some (.int v)/\v.natAbs<=2:=by
 obtain⟨n,rfl⟩:=Int.eq_ofNat_of_zero_le h0;have hn:n<6:=by omega
 match n,hn with
 | 0,_=>exact⟨_,rfl,by decide⟩
 | 1,_=>exact⟨_,rfl,by decide⟩
 | 2,_=>exact⟨_,rfl,by decide⟩
 | 3,_=>exact⟨_,rfl,by decide⟩
 | 4,_=>exact⟨_,rfl,by decide⟩
 | 5,_=>exact⟨_,rfl,by decide⟩
theorem jGi{r:Int}(h0:0<=r)(h1:r<4):∃ v:Int,gIx (.lst [.int 0,.int 0,.int 1,.int (-1)]) (.int r)=some (.int v)/\v.natAbs<=1:=by
 obtain⟨n,rfl⟩:=Int.eq_ofNat_of_zero_le h0;have hn:n<4:=by omega
 match n,hn with
 | 0,_=>exact⟨_,rfl,by decide⟩
 | 1,_=>exact⟨_,rfl,by decide⟩
 | 2,_=>exact⟨_,rfl,by decide⟩
 | 3,_=>exact⟨_,rfl,by decide⟩
abbrev d9(ns:List Int)(its:List (Str×Int))(dds:List Ded)(k a b c d e:Option D):DSt:=[some (scr ns),some (.lst (its.map itD)),some (.lst (dds.map dedD)),k,a,b,c,d,e]
theorem jvp(ns:List Int){its:List (Str×Int)}(hi:its.length<=3)(dds:List Ded){k:Nat}(hk:k<=4)(a b d e:Option D):∃ (cs:List (Int×Int)) (d' e':Option D),forD jeb (DL.gName 7) (jap 0 its.length) (d9 ns its dds (some (.int (k:Nat))) a b (some (.lst [])) d e)=some (.ok (.nx (d9 ns its dds (some (.int (k:Nat))) a b (some (.lst (cs.map chD))) d' e')))/\cs.length<=3/\∀ x∈cs,x.1.natAbs<=2/\x.2.natAbs<=1:=by
 have c5:=jfv (ns:=ns) (k:=5) (by decide);have a3:jbj (.int 3) (.int (k:Nat))=some (.int (3*(k:Nat))):=ja6 (a:=10) (b:=10) (by unfold Bt;decide) (by unfold Bt;omega);have a5:jbj (.int 5) (.int (k:Nat))=some (.int (5*(k:Nat))):=ja6 (a:=10) (b:=10) (by unfold Bt;decide) (by unfold Bt;omega);obtain⟨Y',lp,cs,d',e',rfl,hl,hb⟩:=jf9 (g:=jeb) (tg:=DL.gName 7) (jap 0 its.length) (fun j Y=>∃ (cs:List (Int×Int)) (d' e':Option D),Y=d9 ns its dds (some (.int (k:Nat))) a b (some (.lst (cs.map chD))) d' e'/\cs.length=j/\∀ x∈cs,x.1.natAbs<=2/\x.2.natAbs<=1)
  (fun j hj Y ⟨cs,d',e',hδ,hl,hb⟩=>by
   subst hδ;rw[range_len] at hj;have mx:=jox (ns:=ns) (p:=5) (g:=4+3*(k:Nat)+(j:Nat)) (k:=90+5*(k:Nat)+(j:Nat)) (by decide) (by omega) (by omega) (by omega);generalize jrs ns 5 (4+3*(k:Nat)+(j:Nat)) (90+5*(k:Nat)+(j:Nat))=m at mx;have e6:=jba (i:=m) (j:=6) (by decide);have f6:=jb6 (i:=m) (j:=6) (by decide) (by decide);have e4:=jba (i:=m / 6) (j:=4) (by decide);obtain⟨v,hv,hv2⟩:=jGj (zdw m (show (6:Int)≠0 by decide)) (zda m (show (0:Int)<6 by decide));obtain⟨u,hu,hu2⟩:=jGi (zdw (m / 6) (show (4:Int)≠0 by decide)) (zda (m / 6) (show (0:Int)<4 by decide));have l6:∀ Y,fL jbi (jac (fC (.int 0)) (jac (fC (.int 1)) (jac (f1 gNeg (fC (.int 1))) (jac (f1 gNeg (fC (.int 1))) (jac (fC (.int 2)) (jac (fC (.int 0)) fNil)))))) Y=some (.ok (.lst [.int 0,.int 1,.int (-1),.int (-1),.int 2,.int 0])):=fun _=>rfl
   have l4:∀ Y,fL jbi (jac (fC (.int 0)) (jac (fC (.int 0)) (jac (fC (.int 1)) (jac (f1 gNeg (fC (.int 1))) fNil)))) Y=some (.ok (.lst [.int 0,.int 0,.int 1,.int (-1)])):=fun _=>rfl
   have la:(cs.map chD).length<=100000:=by rw[zav];omega
   refine⟨d9 ns its dds (some (.int (k:Nat))) a b (some (.lst (cs.map chD))) (some (.int (j:Nat))) e',by rw[je6];rfl,d9 ns its dds (some (.int (k:Nat))) a b (some (.lst ((cs++[(v,u)]).map chD))) (some (.int (j:Nat))) (some (.int m)),.inl ?_,cs++[(v,u)],_,_,rfl,by rw[zdb,hl];rfl,fun x hx=>?_⟩
   ·unfold jeb;rw[ja5 (Y':=d9 ns its dds (some (.int (k:Nat))) a b (some (.lst (cs.map chD))) (some (.int (j:Nat))) (some (.int m))) (jfy 8 (by simp only[stp,c5,a3,a5,mx]<;>rfl)),jm8 (d:=chD (v,u)) (ds:=cs.map chD) 6 ?_ rfl la,List.map_append]
    ·rfl
    ·have x1:f2 gIx (fL jbi (jac (fC (.int 0)) (jac (fC (.int 1)) (jac (f1 gNeg (fC (.int 1))) (jac (f1 gNeg (fC (.int 1))) (jac (fC (.int 2)) (jac (fC (.int 0)) fNil))))))) (f2 gMod (fVar 8) (fC (.int 6))) (d9 ns its dds (some (.int (k:Nat))) a b (some (.lst (cs.map chD))) (some (.int (j:Nat))) (some (.int m)))=some (.ok (.int v)):=by
      rw[e_2,l6,M.b_ok];simp only[stp,e6,hv]<;>rfl
     have x2:f2 gIx (fL jbi (jac (fC (.int 0)) (jac (fC (.int 0)) (jac (fC (.int 1)) (jac (f1 gNeg (fC (.int 1))) fNil))))) (f2 gMod (f2 jd1 (fVar 8) (fC (.int 6))) (fC (.int 4))) (d9 ns its dds (some (.int (k:Nat))) a b (some (.lst (cs.map chD))) (some (.int (j:Nat))) (some (.int m)))=some (.ok (.int u)):=by
      rw[e_2,l4,M.b_ok];simp only[stp,f6,e4,hu]<;>rfl
     rw[e_L,jlq,x1,M.b_ok,jlq,x2,M.b_ok];rfl
   ·rcases zey.mp hx with hx|hx
    ·exact hb x hx
    ·rw[zex] at hx;rw[hx];exact⟨hv2,hu2⟩) (d9 ns its dds (some (.int (k:Nat))) a b (some (.lst [])) d e) ⟨[],d,e,rfl,rfl,fun x hx=>by cases hx⟩
 rw[range_len] at hl;exact⟨cs,d',e',lp,by omega,hb⟩
theorem jvz(ns:List Int){its:List (Str×Int)}(hi:its.length<=3):∃ dds:List Ded,jfi [scr ns,.lst (its.map itD)]=some (.ok (.lst (dds.map dedD)))/\1<=dds.length/\dds.length<=4/\∀ d∈dds,DedOk d:=by
 have c0:=jfv (ns:=ns) (k:=0) (by decide);generalize jka ns 0=m0 at c0;have mx:=jb6 (i:=m0) (j:=24) (by decide) (by decide);generalize m0 / 24=m at mx;have r1:=zdw m (show (4:Int)≠0 by decide);have r2:=zda m (show (0:Int)<4 by decide);have e3:=jba (i:=m) (j:=4) (by decide);generalize m % 4=r at r1 r2 e3;obtain⟨N,hN⟩:∃ N:Nat,1+r=(N:Int):=⟨(1+r).toNat,by omega⟩
 have c5:=jfv (ns:=ns) (k:=5) (by decide);obtain⟨Y',lp,dds,k',a,b,c,d,e,rfl,hl,hr⟩:=jf9 (g:=jf1) (tg:=DL.gName 3) (jap 0 N) (fun j Y=>∃ (dds:List Ded) (k a b c d e:Option D),Y=d9 ns its dds k a b c d e/\dds.length=j/\∀ x∈dds,DedOk x)
  (fun j hj Y ⟨dds,k,a,b,c,d,e,hδ,hl,hr⟩=>by
   subst hδ;rw[range_len] at hj;refine⟨d9 ns its dds (some (.int (j:Nat))) a b c d e,by rw[je6];rfl,?_⟩;have mx1:=jox (ns:=ns) (p:=5) (g:=(j:Int)) (k:=70+(j:Int)) (by decide) (by omega) (by omega) (by omega);generalize jrs ns 5 (j:Int) (70+(j:Int))=m1 at mx1;have f1:=jba (i:=m1) (j:=4) (by decide);have f2':=jb6 (i:=m1) (j:=4) (by decide) (by decide);have f3:=jba (i:=m1 / 4) (j:=6) (by decide);have q1:=zdw m1 (show (4:Int)≠0 by decide);have q2:=zda m1 (show (0:Int)<4 by decide);have q3:=zdw (m1 / 4) (show (6:Int)≠0 by decide);have q4:=zda (m1 / 4) (show (0:Int)<6 by decide);generalize m1 % 4=lo at f1 q1 q2;generalize m1 / 4 % 6=hi' at f3 q3 q4;obtain⟨cs,d',e',lp,h1,h2⟩:=jvp ns hi dds (k:=j) (by omega) (some (.int m1)) (some (.int (lo-1))) d e;obtain⟨s,hs⟩:=jpp ns (k:=9+j) (by omega);have hs':jcn [scr ns,.int (9+(j:Int))]=some (.ok (.str s)):=by
    rw[show (9+(j:Int))=((9+j:Nat):Int) by omega];exact hs
   have la:(dds.map dedD).length<=100000:=by rw[zav];omega
   refine⟨d9 ns its (dds++[⟨s,lo-1,lo-1+hi',cs⟩]) (some (.int (j:Nat))) (some (.int m1)) (some (.int (lo-1))) (some (.lst (cs.map chD))) d' e',.inl ?_,dds++[⟨s,lo-1,lo-1+hi',cs⟩],_,_,_,_,_,_,rfl,by rw[zdb,hl];rfl,fun x hx=>?_⟩
   ·unfold jf1;rw[ja5 (Y':=d9 ns its dds (some (.int (j:Nat))) (some (.int m1)) b c d e) (jfy 4 (by simp only[stp,c5,mx1]<;>rfl)),
     ja5 (Y':=d9 ns its dds (some (.int (j:Nat))) (some (.int m1)) (some (.int (lo-1))) c d e) (jfy 5 (by simp only[stp,f1]<;>rfl)),
     ja5 (Y':=d9 ns its dds (some (.int (j:Nat))) (some (.int m1)) (some (.int (lo-1))) (some (.lst [])) d e) (jfy 6 rfl),
     ja5 (Y':=d9 ns its dds (some (.int (j:Nat))) (some (.int m1)) (some (.int (lo-1))) (some (.lst (cs.map chD))) d' e') (by rw[jew (ds:=jap 0 its.length) (by simp only[stp,zav]<;>rfl)];exact lp),
     jm8 (d:=dedD ⟨s,lo-1,lo-1+hi',cs⟩) (ds:=dds.map dedD) 2 (by simp only[stp,hs',f2',f3]<;>rfl) rfl la]
    rw[d9,d9,List.map_append];rfl
   ·rcases zey.mp hx with hx|hx
    ·exact hr x hx
    ·rw[zex] at hx;rw[hx];exact⟨h1,h2,show -1<=lo-1 by omega,show lo-1<=2 by omega,show lo-1<=lo-1+hi' by omega,show lo-1+hi'<=lo-1+5 by omega⟩) (d9 ns its [] none none none none none none) ⟨[],none,none,none,none,none,none,rfl,rfl,fun x hx=>by cases hx⟩
 rw[range_len] at hl;refine⟨dds,?_,by omega,by omega,hr⟩;unfold jfi;rw[jd0];unfold jhn;rw[ja5 (Y':=d9 ns its [] none none none none none none) (jfy 2 rfl),
  ja5 (Y':=d9 ns its dds k' a b c d e) (by rw[jew (ds:=jap 0 N) (by simp only[stp,c0,mx,e3,hN]<;>rfl)];exact lp),jjn (d:=.lst (dds.map dedD)) rfl]
 rfl
theorem jyp(ns:List Int):∃ b:Bk,jgx [scr ns]=some (.ok (bkD b))/\BkOk b:=by
 obtain⟨its,h1,i1,i2⟩:=jwe ns;obtain⟨rls,h2,r0,r1,r2⟩:=jw7 ns i1 i2;obtain⟨dds,h3,d1,d2,d3⟩:=jvz ns i1;refine⟨⟨its,rls,dds⟩,?_,⟨i1,r1,d1,d2,i2,r2,d3⟩⟩;unfold jgx;rw[jjc];unfold jit;simp only[stp,h1,h2,h3,Nat.reduceSub]<;>rfl
end
open FM (Fr fr btw bot ml tp dt)
section
noncomputable def pt(p:Fr):D:=.tup [.int p.1,.int p.2]
theorem pt0(p:Fr):gIx (pt p) (.int 0)=some (.int p.1):=by unfold pt;rw[ix_t,at0]
theorem pt1(p:Fr):gIx (pt p) (.int 1)=some (.int p.2):=by unfold pt;rw[ix_t,at1]
theorem t_cp(x y:Int)(r:Option D):jdb [some (.int x),some (.int y),r]=some (.ok (!(y == 0))):=by
 unfold jdb;simp only[stp];rfl
theorem b_cp(x y:Int)(r:Option D)(h:0<y):jc6 [some (.int x),some (.int y),r]=some (.ok (.nx [some (.int y),some (.int (x % y)),some (.int (x % y))])):=by
 unfold jc6;simp only[stp,jba (i:=x) h];rfl
theorem jBc:∀ (k m a b:Nat) (r:Option D),b<2 ^ k->2*k+1<=m->∃ r',jdm jdb jc6 m [some (.int a),some (.int b),r]=some (.ok (.nx [some (.int (Nat.gcd a b)),some (.int 0),r']))
 | 0,m,a,b,r,hk,hm=>by
  obtain⟨m,rfl⟩:∃ n,m=n+1:=⟨m-1,by omega⟩
  have:b=0:=by simp at hk;omega
  subst this;exact⟨r,by rw[jsg (by rw[t_cp];rfl),Nat.gcd_zero_right];rfl⟩
 | k+1,m,a,b,r,hk,hm=>by
  obtain⟨m,rfl⟩:∃ n,m=n+1:=⟨m-1,by omega⟩
  by_cases h0:b=0
  ·subst h0;exact⟨r,by rw[jsg (by rw[t_cp];rfl),Nat.gcd_zero_right];rfl⟩
  ·have hb:(0:Int)<(b:Int):=by omega
   rw[w_go (by rw[t_cp,beq_eq_false_iff_ne.mpr (by omega)];rfl) (b_cp a b r hb)];obtain⟨m,rfl⟩:∃ n,m=n+1:=⟨m-1,by omega⟩
   have e1:((a:Int) % (b:Int))=((a % b:Nat):Int):=by omega
   have g1:Nat.gcd a b=Nat.gcd b (a % b):=by rw[Nat.gcd_comm a b,Nat.gcd_rec b a,Nat.gcd_comm]
   rw[e1,g1]
   by_cases h1:a % b=0
   ·rw[h1];exact⟨_,by rw[jsg (by rw[t_cp];rfl),Nat.gcd_zero_right];rfl⟩
   ·have hr:(0:Int)<((a % b:Nat):Int):=by omega
    rw[w_go (by rw[t_cp,beq_eq_false_iff_ne.mpr (by omega)];rfl) (b_cp b (a % b:Nat) _ hr)];have e2:((b:Int) % ((a % b:Nat):Int))=((b % (a % b):Nat):Int):=by omega
    have g2:Nat.gcd b (a % b)=Nat.gcd (a % b) (b % (a % b)):=by rw[Nat.gcd_comm b,Nat.gcd_rec (a % b) b,Nat.gcd_comm]
    rw[e2,g2];have l1:=Nat.mod_lt a (show 0<b by omega);have l2:=Nat.mod_lt b (show 0<a % b by omega);have l3:b % (a % b)<2 ^ k:=by
     have:2*(b % (a % b))<b:=by
      have q:=Nat.mod_add_div b (a % b);have q1:1<=b / (a % b):=(Nat.le_div_iff_mul_le (by omega)).mpr (by omega);have q2:=Nat.mul_le_mul_left (a % b) q1;omega
     have:2 ^ (k+1)=2*2 ^ k:=by rw[Nat.pow_succ];omega
     omega
    exact jBc k m _ _ _ l3 (by omega)
theorem jBd{a b:Nat}(hb:b<2 ^ 40000):jbt [.int a,.int b]=some (.ok (.int (Nat.gcd a b))):=by
 obtain⟨r,e⟩:=jBc 40000 FUEL a b none hb (by rw[jsi];decide);unfold jbt;rw[jd0];show (jdp [some (.int a),some (.int b),none]).b outD=_;unfold jdp;rw[ja5 e];rfl
theorem jA4(i:Int):kAbs [.int i]=some (.int (i.natAbs:Int)):=by
 show some (D.int (if i<0 then -i else i))=_;congr 2
 split<;>omega
theorem jqn{i j:Int}(h:j≠0)(hb:Bt 8900 j):jnw (.int i) (.int j)=some (.int (i.fdiv j)):=by
 refine if_pos ⟨h,?_⟩;unfold DIVB;have hb':j.natAbs<2 ^ 9000:=zcy hb (Nat.pow_le_pow_right (by decide) (by decide));rw[<- jjx] at hb';omega
theorem jpd{i j:Int}(h:0<j)(hb:Bt 8900 j):jd1 (.int i) (.int j)=some (.int (i.fdiv j)):=by
 rw[Int.fdiv_eq_ediv_of_nonneg i (zcc h)];refine if_pos ⟨h,?_⟩;unfold DIVB;have hb':j.natAbs<2 ^ 9000:=zcy hb (Nat.pow_le_pow_right (by decide) (by decide));rw[<- jjx] at hb';omega
theorem jkg{t b:Int}(hb:b≠0)(h2:Bt 8900 b):je3 [.int t,.int b]=some (.ok (pt (fr t b))):=by
 have g0:=Int.gcd_pos_of_ne_zero_right t hb;have hg:(Int.gcd t b:Int)≠0:=by omega
 have gl:Int.gcd t b<=b.natAbs:=Nat.le_of_dvd (by omega) (Int.gcd_dvd_natAbs_right t b);have bg:Bt 8900 (Int.gcd t b:Int):=by unfold Bt at h2 |-;omega
 have e1:jbt [.int (t.natAbs:Int),.int (b.natAbs:Int)]=some (.ok (.int (Int.gcd t b))):=jBd (zcy h2 (Nat.pow_le_pow_right (by decide) (by decide)));unfold je3;rw[jd0];show (jgq [some (.int t),some (.int b),none]).b outD=_;unfold jgq;rw[ja5 (Y':=[some (.int t),some (.int b),some (.int (Int.gcd t b))]) (by simp only[stp,jA4,e1];rfl)];have t0:DL.t2 gLt (fVar 1) (fC (.int 0)) [some (.int t),some (.int b),some (.int (Int.gcd t b))]=some (.ok (decide (b<0))):=by simp only[stp];rfl
 unfold FM.fr
 by_cases c:b<0
 ·rw[ja5 (Y':=[some (.int t),some (.int b),some (.int (-(Int.gcd t b:Int)))]) (by rw[w_if t0,if_pos (by simpa using c)];simp only[stp];rfl)];rw[if_pos c];have f:=fun i=>jqn (i:=i) (j:=-(Int.gcd t b:Int)) (by omega) bg.neg
  simp only[stp,f];rfl
 ·rw[jgk (by rw[t0,decide_eq_false c])];rw[if_neg c];have f:=fun i=>jqn (i:=i) (j:=(Int.gcd t b:Int)) (by omega) bg
  simp only[stp,f];rfl
theorem jB1{k:Nat}{t b:Int}(hb:b≠0)(h1:Bt k t)(h2:Bt k b):Bt k (fr t b).1/\Bt k (fr t b).2:=by
 have:=FM.fr_abs (t:=t) hb;unfold Bt at *;omega
theorem jpk{k:Nat}{f g:Fr}(hf:Bt k f.1/\Bt k f.2)(hg:Bt k g.1/\Bt k g.2)(hk:k<=100000):jdd [pt f,pt g]=some (.ok (.bl (decide (f.1*g.2<g.1*f.2)))):=by
 have m1:=ja6 hf.1 hg.2 hk hk;have m2:=ja6 hg.1 hf.2 hk hk;unfold jdd;rw[jd0];unfold jkh;simp only[stp,pt0,pt1,m1,m2];rfl
def od:Option Fr->D
 | none=>.non
 | some f=>pt f
theorem jpq(f:Fr):od (some f)=pt f:=rfl
structure FrOk(k:Nat)(f:Fr):Prop where
 a:Bt k f.1
 b:Bt k f.2
 p:0<f.2
theorem joa(o:Option Fr):gIs (od o) .non=some (.bl o.isNone):=by cases o<;>rfl
theorem jro{k:Nat}{low high:Option Fr}(hl:∀ l,low=some l->FrOk k l)(hh:∀ h,high=some h->FrOk k h)(hk:k<=4400):jie [od low,od high]=some (.ok (pt (btw low high))):=by
 unfold jie;rw[jd0];show (jia [some (od low),some (od high),none]).b outD=_;have t0:DL.tAnd (DL.t2 gIs (fVar 0) (fC .non)) (DL.t2 gIs (fVar 1) (fC .non)) [some (od low),some (od high),none]=some (.ok (low.isNone&&high.isNone)):=by
  simp only[stp,joa];cases low.isNone<;>rfl
 have t1:DL.t2 gIs (fVar 0) (fC .non) [some (od low),some (od high),none]=some (.ok low.isNone):=by simp only[stp,joa];rfl
 unfold jia
 cases low with
 | none =>
  cases high with
  | none =>
   rw[joy (d:=.tup [.int 0,.int 1]) (by rw[t0];rfl) rfl];rfl
  | some h =>
   have H:=hh h rfl;rw[jgk (by rw[t0];rfl)];have f:=jpd (i:=h.1-1) H.p (H.b.mono (by omega));rw[joy (d:=pt (btw none (some h))) (by rw[t1];rfl) (by
    show fL jcy _ [some .non,some (pt h),none]=_;simp only[stp,pt0,pt1,f];rfl)]
   rfl
 | some l =>
  have L:=hl l rfl;rw[jgk (by rw[t0];rfl),jgk (by rw[t1];rfl)];have f:=jpd (i:=l.1) L.p (L.b.mono (by omega));rw[ja5 (Y':=[some (pt l),some (od high),some (pt (l.1.fdiv l.2+1,1))]) (by
   show gSet 2 _ [some (pt l),some (od high),none]=_;simp only[stp,pt0,pt1,f];rfl)]
  cases high with
  | none =>
   rw[joy (d:=pt (btw (some l) none)) (by simp only[stp,joa];rfl) rfl];rfl
  | some h =>
   have H:=hh h rfl;have bu:Bt (k+1) (l.1.fdiv l.2+1):=by
    refine Bt.add ?_ (by unfold Bt;rw[show (1:Int).natAbs=1 from rfl];exact Nat.one_lt_two_pow (fun z=>by have:=L.b;have p:=L.p;rw[z] at this;unfold Bt at this;omega));rw[Int.fdiv_eq_ediv_of_nonneg _ (zcc L.p)];exact js6 L.a L.p
   have b1:Bt (k+1) (1:Int):=by unfold Bt;rw[show (1:Int).natAbs=1 from rfl];exact Nat.one_lt_two_pow (by omega)
   have e:=jpk (f:=(l.1.fdiv l.2+1,1)) (g:=h) ⟨bu,b1⟩ ⟨H.a.mono (Nat.le_succ k),H.b.mono (Nat.le_succ k)⟩ (by omega);have t2:DL.tOr (DL.t2 gIs (fVar 1) (fC .non)) (tTru (ja2 jdd (jac (fVar 2) (jac (fVar 1) fNil)))) [some (pt l),some (od (some h)),some (pt (l.1.fdiv l.2+1,1))]=some (.ok (decide ((l.1.fdiv l.2+1)*h.2<h.1*1))):=by
    simp only[stp,joa];show M.b (jdd [pt (l.1.fdiv l.2+1,1),pt h]) _=_;rw[e];rfl
   unfold FM.btw
   by_cases c:(l.1.fdiv l.2+1)*h.2<h.1*1
   ·rw[joy (d:=pt (l.1.fdiv l.2+1,1)) (by rw[t2,decide_eq_true c]) rfl];simp only[if_pos c];rfl
   ·rw[jgk (by rw[t2,decide_eq_false c])];have m1:=ja6 L.a H.b (by omega) (by omega);have m2:=ja6 H.a L.b (by omega) (by omega);have m3:jbj (.int 2) (.int l.2)=some (.int (2*l.2)):=ja6 (a:=2) (by unfold Bt;decide) L.b (by omega) (by omega);have b3:Bt (2+k) (2*l.2):=Bt.mul (a:=2) (by unfold Bt;decide) L.b;have m4:=ja6 b3 H.b (by omega) (by omega);have pb:=zcw (zcw (show (0:Int)<2 by decide) L.p) H.p;have fo:=jkg (t:=l.1*h.2+h.1*l.2) (b:=2*l.2*h.2) (by omega) ((b3.mul H.b).mono (by omega));simp only[if_neg c];simp only[stp,jpq,pt0,pt1,m1,m2,m3,m4,fo];rfl
end
open FM (Fr fr btw bot ml tp dt)
section
noncomputable def jln(t:Int×Int)(x:Int×Fr):Int×Int:=(t.1*x.2.2+x.1*x.2.1*t.2,t.2*x.2.2)
structure VOk(A B:Nat)(x:Int×Fr):Prop where
 c:Bt A x.1
 p:Bt B x.2.1
 q:Bt B x.2.2
theorem jqa{A B k:Nat}{t:Int×Int}{x:Int×Fr}(h1:Bt k t.1)(h2:Bt k t.2)(hx:VOk A B x):Bt (k+(A+B+1)) (jln t x).1/\Bt (k+(A+B+1)) (jln t x).2:=by
 refine⟨?_,(h2.mul hx.q).mono (by omega)⟩;exact (Bt.add (a:=k+(A+B)) ((h1.mul hx.q).mono (by omega)) (((hx.c.mul hx.p).mul h2).mono (by omega))).mono (by omega)
def vD(x:Int×Fr):D:=.tup [.int x.1,pt x.2]
theorem jCs{A B:Nat}(X Yq Zq:Option D):∀ (xs:List (Int×Fr)) (k:Nat) (t:Int×Int) (e f:Option D),(∀ x∈xs,VOk A B x)->Bt k t.1->Bt k t.2->k+(A+B+1)*xs.length<=90000->A<=90000->B<=90000 ->
  ∃ e' f',forD jhg (jcq 5 6) (xs.map vD) [X,Yq,Zq,some (.int t.1),some (.int t.2),e,f]=some (.ok (.nx [X,Yq,Zq,some (.int (xs.foldl jln t).1),some (.int (xs.foldl jln t).2),e',f']))
 | [],k,t,e,f,_,_,_,_,_,_=>⟨e,f,rfl⟩
 | x::xs,k,t,e,f,hx,h1,h2,hk,hA,hB=>by
  have v:=hx x zaa;obtain⟨b1,b2⟩:=jqa (k:=k) (t:=t) (x:=x) h1 h2 v;rw[List.length_cons,Nat.mul_succ] at hk;have hk':k+(A+B+1)+(A+B+1)*xs.length<=90000:=by omega
  obtain⟨e',f',ih⟩:=jCs X Yq Zq xs (k+(A+B+1)) (jln t x) (some (.int x.1)) (some (pt x.2)) (fun y hy=>hx y (zaw _ hy)) b1 b2 hk' hA hB;refine⟨e',f',?_⟩;have m1:=ja6 h1 v.q (by omega) (by omega);have m2:=ja6 v.c v.p (by omega) (by omega);have m3:=ja6 (v.c.mul v.p) h2 (by omega) (by omega);have m4:=ja6 h2 v.q (by omega) (by omega);rw[List.map_cons,List.foldl_cons,jcv (d:=vD x) (Y1:=[X,Yq,Zq,some (.int t.1),some (.int t.2),some (.int x.1),some (pt x.2)]) rfl (by
   unfold jhg;simp only[stp,pt0,pt1,m1,m2,m3,m4];rfl)]
  exact ih
theorem jpe:∀ (cs:List Int) (ps:List Fr) (t b:Int),cs.length=ps.length->(cs.zip ps).foldl jln (t,b)=(t*bot ps+b*dt cs (ml ps),b*bot ps)
 | [],[],t,b,_=>by simp[FM.bot,FM.ml]
 | c::cs,p::ps,t,b,h=>by
  rw[List.zip_cons_cons,List.foldl_cons];show (cs.zip ps).foldl jln (t*p.2+c*p.1*b,b*p.2)=_;rw[jpe cs ps _ _ (Nat.succ.inj h)];have eb:bot (p::ps)=p.2*bot ps:=rfl;have em:ml (p::ps)=(p.1*bot ps)::(ml ps).map (p.2*·):=rfl;rw[eb,em,FM.dt_cons,FM.dt_mul];refine Prod.ext ?_ ?_
  ·show (t*p.2+c*p.1*b)*bot ps+b*p.2*dt cs (ml ps)=t*(p.2*bot ps)+b*(c*(p.1*bot ps)+p.2*dt cs (ml ps))
   grind
  ·show b*p.2*bot ps=b*(p.2*bot ps)
   grind
 | [],_::_,_,_,h=>by cases h
 | _::_,[],_,_,h=>by cases h
theorem jvg(cs:List Int)(ps:List Fr):zipD (cs.map .int) (ps.map pt)=(cs.zip ps).map vD:=jk8 D.int pt cs ps
theorem jnk{k:Nat}(h:1<=k):Bt k (1:Int):=by unfold Bt;exact Nat.one_lt_two_pow (by omega)
theorem jxi{A B:Nat}{cs:List Int}{r:Int}{ps:List Fr}(hl:cs.length=ps.length)(hc:∀ c∈cs,Bt A c)(hr:Bt A r)(hp:∀ p∈ps,Bt B p.1/\Bt B p.2)(hn:ps.length<=3)(hA:A<=1000)(hB:B<=9000)(h1:1<=A) :
  jgy [.tup (cs.map .int),.int r,.lst (ps.map pt)]=some (.ok (.tup [.int (tp cs r ps),.int (bot ps)])):=by
 obtain⟨e',f',e⟩:=jCs (A:=A) (B:=B) (some (.tup (cs.map .int))) (some (.int r)) (some (.lst (ps.map pt))) (cs.zip ps) A (r,1) none none (fun x hx=>⟨hc _ (zdz hx).1,(hp _ (zdz hx).2).1,(hp _ (zdz hx).2).2⟩) hr (jnk h1) (by
  have:(cs.zip ps).length<=3:=by rw[List.length_zip];omega
  have:=Nat.mul_le_mul_left (A+B+1) this;omega) (by omega) (by omega)
 rw[jpe cs ps r 1 hl] at e;unfold jgy;rw[jlr];show (jgu [some (.tup (cs.map .int)),some (.int r),some (.lst (ps.map pt)),none,none,none,none]).b outD=_;unfold jgu;rw[ja5 (Y':=[some (.tup (cs.map .int)),some (.int r),some (.lst (ps.map pt)),some (.int r),none,none,none]) (by simp only[stp];rfl)];rw[ja5 (Y':=[some (.tup (cs.map .int)),some (.int r),some (.lst (ps.map pt)),some (.int r),some (.int 1),none,none]) (by simp only[stp];rfl)];rw[ja5 (show gFor _ _ _ _=some (.ok (.nx _)) from by rw[jew (ds:=(cs.zip ps).map vD) (by simp only[stp,jvh,jvg];rfl)];exact e)];simp only[stp,Int.one_mul];rfl
theorem jta{A B:Nat}:∀ {a w:List Int},(∀ x∈a,Bt A x)->(∀ x∈w,Bt B x)->(dt a w).natAbs<=a.length*2 ^ (A+B)
 | [],w,_,_=>by simp
 | x::a,[],_,_=>by simp
 | x::a,y::w,ha,hw=>by
  rw[FM.dt_cons,List.length_cons,Nat.succ_mul];have ih:=jta (fun z hz=>ha z (zaw _ hz)) (fun z hz=>hw z (zaw _ hz)) (a:=a) (w:=w);have h1:Bt (A+B) (x*y):=(ha x zaa).mul (hw y zaa);unfold Bt at h1;omega
inductive PtOk:List Fr->Nat->Prop
 | nil:PtOk [] 1
 | cons {p:Fr} {ps:List Fr} {Q S:Nat}:FrOk Q p->PtOk ps S->PtOk (p::ps) (Q+S)
theorem PtOk.bot{ps:List Fr}{S:Nat}(h:PtOk ps S):Bt S (bot ps)/\0<bot ps/\∀ m∈ml ps,Bt S m:=by
 induction h with
 | nil=>exact⟨by unfold FM.bot Bt;decide,by unfold FM.bot;decide,fun m hm=>nomatch hm⟩
 | cons hp _ ih =>
  unfold FM.bot FM.ml;refine⟨hp.b.mul ih.1,zcw hp.p ih.2.1,fun m hm=>?_⟩;rcases List.mem_cons.mp hm with rfl|hm
  ·exact hp.a.mul ih.1
  ·obtain⟨z,hz,rfl⟩:=zca.mp hm;exact hp.b.mul (ih.2.2 z hz)
theorem PtOk.all{ps:List Fr}{S:Nat}(h:PtOk ps S):1<=S/\∀ p∈ps,FrOk S p:=by
 induction h with
 | nil=>exact⟨zac 1,fun p hp=>nomatch hp⟩
 | cons hp _ ih =>
  refine⟨by omega,fun p h=>?_⟩;rcases List.mem_cons.mp h with rfl|h
  ·exact⟨hp.a.mono (by omega),hp.b.mono (by omega),hp.p⟩
  ·have:=ih.2 p h;exact⟨this.a.mono (by omega),this.b.mono (by omega),this.p⟩
theorem jG4{C S:Nat}{cs:List Int}{r:Int}{ps:List Fr}(hP:PtOk ps S)(hl:cs.length<=3)(hc:∀ c∈cs,Bt C c)(hr:Bt C r):Bt (C+S+2) (tp cs r ps):=by
 obtain⟨b1,b2,b3⟩:=hP.bot;have h1:=jta hc b3;have h2:Bt (C+S) (r*bot ps):=hr.mul b1;have h3:=Nat.mul_le_mul_right (2 ^ (C+S)) hl;unfold FM.tp;unfold Bt at *;rw[Nat.pow_add];omega
def bdF(j:Nat)(ps:List Fr)(q:Iq):Fr:=fr (-(tp (q.cs.drop (j+1)) q.r ps)) (bot ps*q.cs.getD j 0)
theorem jvw{α:Type}{xs:List α}{k:Nat}(h:k<=xs.length):cutL xs (some (k:Int)) none=xs.drop k:=by
 have e1:HT.sIx xs.length 0 (some (k:Int))=k:=by
  rw[HT.sIx_nat];omega
 have e2:HT.sIx xs.length xs.length none=xs.length:=rfl;unfold cutL;rw[e1,e2,List.take_of_length_le (by rw[List.length_drop];omega)]
theorem jFc{xs:List D}{k:Nat}(h:k+1<=xs.length):cutD (.tup xs) (some ((k+1:Nat):Int)) none=some (.tup (xs.drop (k+1))):=by
 have e1:HT.sIx xs.length 0 (some ((k+1:Nat):Int))=k+1:=by
  rw[HT.sIx_nat];omega
 unfold cutD;dsimp only;rw[if_neg (by rw[e1];omega),jvw h]
theorem jrn{C S u j:Nat}{q:Iq}{ps:List Fr}(hq:IqOk C u q)(hu:u<=3)(hj:j+1+ps.length=u)(hP:PtOk ps S)(hS:S<=3900)(hC:C<=480)(h1:1<=C)(h0:q.cs.getD j 0≠0) :
  je2 [iq q,.int j,.lst (ps.map pt)]=some (.ok (pt (bdF j ps q)))/\FrOk (C+S+2) (bdF j ps q)/\FM.Bd (bdF j ps q) (bot ps) (q.cs.getD j 0) (tp (q.cs.drop (j+1)) q.r ps):=by
 obtain⟨b1,b2,b3⟩:=hP.bot;have hlen:(q.cs.drop (j+1)).length=ps.length:=by rw[List.length_drop,hq.len];omega
 have hjl:j<q.cs.length:=by rw[hq.len];omega
 have hcd:∀ c∈q.cs.drop (j+1),Bt C c:=fun c hc=>hq.cs c (List.mem_of_mem_drop hc)
 have hcj:Bt C (q.cs.getD j 0):=by
  rw[zbx,zax hjl];exact hq.cs _ (List.getElem_mem hjl)
 have e1:=jxi (A:=C) (B:=S) hlen hcd hq.r (fun p hp=>⟨(hP.all.2 p hp).a,(hP.all.2 p hp).b⟩) (by omega) (by omega) (by omega) h1;have bt:=jG4 hP (by rw[hlen];omega) hcd hq.r;have bb:Bt (S+C) (bot ps*q.cs.getD j 0):=b1.mul hcj;have nz:bot ps*q.cs.getD j 0≠0:=Int.mul_ne_zero (by omega) h0;have m1:jbj (.int (bot ps)) (.int (q.cs.getD j 0))=some (.int (bot ps*q.cs.getD j 0)):=ja6 b1 hcj (by omega) (by omega);have fo:=jkg (t:=-(tp (q.cs.drop (j+1)) q.r ps)) nz (bb.mono (by omega));obtain⟨p1,p2,p3⟩:=FM.fr_ok (t:=-(tp (q.cs.drop (j+1)) q.r ps)) nz;obtain⟨z1,z2⟩:=jB1 (k:=C+S+2) nz bt.neg (bb.mono (by omega));refine⟨?_,⟨z1,z2,p1⟩,⟨p1,p2⟩⟩;have hcut:cutD (.tup (q.cs.map D.int)) (some ((j:Int)+1)) none=some (.tup ((q.cs.drop (j+1)).map D.int)):=by
  have:=jFc (xs:=q.cs.map D.int) (k:=j) (by rw[zav];omega);rw[<- List.map_drop] at this;exact this
 have hix:gIx (.tup (q.cs.map D.int)) (.int (j:Int))=some (.int (q.cs.getD j 0)):=by
  rw[ix_t];exact DL.atI_get (by simp[hjl])
 unfold je2;rw[jlr];show (jgp [some (iq q),some (.int j),some (.lst (ps.map pt)),none]).b outD=_;unfold jgp;rw[ja5 (Y':=[some (iq q),some (.int j),some (.lst (ps.map pt)),some (.tup [.int (tp (q.cs.drop (j+1)) q.r ps),.int (bot ps)])]) (by
  unfold fSl jrz jry intD;simp only[stp,iq0,iq1,hcut,e1];rfl)]
 simp only[stp,iq0,hix,m1,fo];rfl
end
open FM (Fr fr btw bot ml tp dt fle flt)
section
noncomputable def jfx(f:Iq->Fr)(j:Nat)(low:Option Fr)(q:Iq):Option Fr:=if 0<q.cs.getD j 0 then (match low with
 | none=>some (f q)
 | some l=>if l.1*(f q).2<(f q).1*l.2 then some (f q) else some l) else low
noncomputable def jfs(f:Iq->Fr)(j:Nat)(high:Option Fr)(q:Iq):Option Fr:=if q.cs.getD j 0<0 then (match high with
 | none=>some (f q)
 | some h=>if (f q).1*h.2<h.1*(f q).2 then some (f q) else some h) else high
structure OOk(k:Nat)(o:Option Fr):Prop where
 ok:∀ f,o=some f->FrOk k f
theorem jrd{k j:Nat}{f:Iq->Fr}{low:Option Fr}{q:Iq}(h:OOk k low)(hf:q.cs.getD j 0≠0->FrOk k (f q)):OOk k (jfx f j low q):=by
 unfold jfx
 split
 ·have:=hf (by omega)
  cases low with
  | none=>exact⟨fun _ e=>by cases e;exact this⟩
  | some l =>
   dsimp only
   split
   ·exact⟨fun _ e=>by cases e;exact this⟩
   ·exact h
 ·exact h
theorem jrc{k j:Nat}{f:Iq->Fr}{low:Option Fr}{q:Iq}(h:OOk k low)(hf:q.cs.getD j 0≠0->FrOk k (f q)):OOk k (jfs f j low q):=by
 unfold jfs
 split
 ·have:=hf (by omega)
  cases low with
  | none=>exact⟨fun _ e=>by cases e;exact this⟩
  | some l =>
   dsimp only
   split
   ·exact⟨fun _ e=>by cases e;exact this⟩
   ·exact h
 ·exact h
theorem jc7(f:Fr):fle f f:=Int.le_refl _
theorem jy3{k j:Nat}{f:Iq->Fr}:∀ (qs:List Iq) (low:Option Fr),OOk k low->(∀ q∈qs,q.cs.getD j 0≠0->FrOk k (f q)) ->
  OOk k (qs.foldl (jfx f j) low)/\(∀ q∈qs,0<q.cs.getD j 0->∃ l,qs.foldl (jfx f j) low=some l/\fle (f q) l)/\(∀ l0,low=some l0->∃ l,qs.foldl (jfx f j) low=some l/\fle l0 l) /\
   (∀ l,qs.foldl (jfx f j) low=some l->low=some l\/∃ q∈qs,0<q.cs.getD j 0/\l=f q)
 | [],low,h,_=>⟨h,(fun q hq=>nomatch hq),fun l0 e=>⟨l0,e,jc7 _⟩,fun l e=>.inl e⟩
 | q::qs,low,h,hf=>by
  have h1:=jrd h (hf q zaa);obtain⟨i1,i2,i3,i4⟩:=jy3 qs (jfx f j low q) h1 fun z hz=>hf z (zaw _ hz)
  rw[List.foldl_cons];have up:∀ l0,low=some l0->∃ l1,jfx f j low q=some l1/\fle l0 l1:=fun l0 e=>by
   subst e;unfold jfx
   split
   ·dsimp only
    split
    ·rename_i c;exact⟨_,rfl,FM.flt_le c⟩
    ·exact⟨_,rfl,jc7 _⟩
   ·exact⟨_,rfl,jc7 _⟩
  refine⟨i1,fun z hz pz=>?_,fun l0 e=>?_,fun l e=>?_⟩
  ·rcases List.mem_cons.mp hz with rfl|hz
   ·have:∃ l1,jfx f j low z=some l1/\fle (f z) l1:=by
     unfold jfx;rw[if_pos pz]
     cases low with
     | none=>exact⟨_,rfl,jc7 _⟩
     | some l =>
      dsimp only
      split
      ·exact⟨_,rfl,jc7 _⟩
      ·rename_i c;exact⟨_,rfl,FM.fle_of_not c⟩
    obtain⟨l1,e1,q1⟩:=this;obtain⟨l,e2,q2⟩:=i3 l1 e1;exact⟨l,e2,FM.fle_trans (hf z zaa (by omega)).p (h1.ok _ e1).p (i1.ok _ e2).p q1 q2⟩
   ·exact i2 z hz pz
  ·obtain⟨l1,e1,q1⟩:=up l0 e;obtain⟨l,e2,q2⟩:=i3 l1 e1;exact⟨l,e2,FM.fle_trans (h.ok _ e).p (h1.ok _ e1).p (i1.ok _ e2).p q1 q2⟩
  ·rcases i4 l e with e1|⟨z,hz,p,e1⟩
   ·unfold jfx at e1
    split at e1
    ·rename_i c
     cases low with
     | none=>cases e1;exact .inr ⟨q,zaa,c,rfl⟩
     | some l' =>
      dsimp only at e1
      split at e1
      ·cases e1;exact .inr ⟨q,zaa,c,rfl⟩
      ·exact .inl e1
    ·exact .inl e1
   ·exact .inr ⟨z,zaw _ hz,p,e1⟩
theorem jy2{k j:Nat}{f:Iq->Fr}:∀ (qs:List Iq) (low:Option Fr),OOk k low->(∀ q∈qs,q.cs.getD j 0≠0->FrOk k (f q)) ->
  OOk k (qs.foldl (jfs f j) low)/\(∀ q∈qs,q.cs.getD j 0<0->∃ l,qs.foldl (jfs f j) low=some l/\fle l (f q))/\(∀ l0,low=some l0->∃ l,qs.foldl (jfs f j) low=some l/\fle l l0) /\
   (∀ l,qs.foldl (jfs f j) low=some l->low=some l\/∃ q∈qs,q.cs.getD j 0<0/\l=f q)
 | [],low,h,_=>⟨h,(fun q hq=>nomatch hq),fun l0 e=>⟨l0,e,jc7 _⟩,fun l e=>.inl e⟩
 | q::qs,low,h,hf=>by
  have h1:=jrc h (hf q zaa);obtain⟨i1,i2,i3,i4⟩:=jy2 qs (jfs f j low q) h1 fun z hz=>hf z (zaw _ hz)
  rw[List.foldl_cons];have up:∀ l0,low=some l0->∃ l1,jfs f j low q=some l1/\fle l1 l0:=fun l0 e=>by
   subst e;unfold jfs
   split
   ·dsimp only
    split
    ·rename_i c;exact⟨_,rfl,FM.flt_le c⟩
    ·exact⟨_,rfl,jc7 _⟩
   ·exact⟨_,rfl,jc7 _⟩
  refine⟨i1,fun z hz pz=>?_,fun l0 e=>?_,fun l e=>?_⟩
  ·rcases List.mem_cons.mp hz with rfl|hz
   ·have:∃ l1,jfs f j low z=some l1/\fle l1 (f z):=by
     unfold jfs;rw[if_pos pz]
     cases low with
     | none=>exact⟨_,rfl,jc7 _⟩
     | some l =>
      dsimp only
      split
      ·exact⟨_,rfl,jc7 _⟩
      ·rename_i c;exact⟨_,rfl,FM.fle_of_not c⟩
    obtain⟨l1,e1,q1⟩:=this;obtain⟨l,e2,q2⟩:=i3 l1 e1;exact⟨l,e2,FM.fle_trans (i1.ok _ e2).p (h1.ok _ e1).p (hf z zaa (by omega)).p q2 q1⟩
   ·exact i2 z hz pz
  ·obtain⟨l1,e1,q1⟩:=up l0 e;obtain⟨l,e2,q2⟩:=i3 l1 e1;exact⟨l,e2,FM.fle_trans (i1.ok _ e2).p (h1.ok _ e1).p (h.ok _ e).p q2 q1⟩
  ·rcases i4 l e with e1|⟨z,hz,p,e1⟩
   ·unfold jfs at e1
    split at e1
    ·rename_i c
     cases low with
     | none=>cases e1;exact .inr ⟨q,zaa,c,rfl⟩
     | some l' =>
      dsimp only at e1
      split at e1
      ·cases e1;exact .inr ⟨q,zaa,c,rfl⟩
      ·exact .inl e1
    ·exact .inl e1
   ·exact .inr ⟨z,zaw _ hz,p,e1⟩
section
variable {C S u j:Nat}{ps:List Fr}
def s7n(A:Option D)(j:Nat)(ps:List Fr)(low high:Option Fr)(e f:Option D):DSt:=[A,some (.int j),some (.lst (ps.map pt)),some (od low),some (od high),e,f]
theorem jEj{A:Option D}{q:Iq}(hq:IqOk C u q)(hu:u<=3)(hj:j+1+ps.length=u)(hP:PtOk ps S)(hS:S<=3900)(hC:C<=480)(h1:1<=C){low high:Option Fr}(hl:OOk (C+S+2) low)(hh:OOk (C+S+2) high)(f:Option D) :
  ∃ f',jdn (s7n A j ps low high (some (iq q)) f)=some (.ok (.nx (s7n A j ps (jfx (bdF j ps) j low q) (jfs (bdF j ps) j high q) (some (iq q)) f'))):=by
 have hjl:j<q.cs.length:=by rw[hq.len];omega
 have hix:L2.atI (q.cs.map D.int) (j:Int)=some (.int (q.cs.getD j 0)):=DL.atI_get (by simp[hjl]);have tg:DL.t2 gGt (f2 gIx (f2 gIx (fVar 5) (fC (.int 0))) (fVar 1)) (fC (.int 0)) (s7n A j ps low high (some (iq q)) f)=some (.ok (decide (0<q.cs.getD j 0))):=by
  unfold s7n;simp only[stp,iq0,hix];rfl
 have tl:DL.t2 gLt (f2 gIx (f2 gIx (fVar 5) (fC (.int 0))) (fVar 1)) (fC (.int 0)) (s7n A j ps low high (some (iq q)) f)=some (.ok (decide (q.cs.getD j 0<0))):=by
  unfold s7n;simp only[stp,iq0,hix];rfl
 unfold jdn
 by_cases c1:0<q.cs.getD j 0
 ·obtain⟨e1,e2,_⟩:=jrn hq hu hj hP hS hC h1 (by omega);refine⟨some (pt (bdF j ps q)),?_⟩;rw[w_if tg,if_pos (by simpa using c1)];rw[ja5 (Y':=s7n A j ps low high (some (iq q)) (some (pt (bdF j ps q)))) (by unfold s7n;simp only[stp,e1];rfl)];have eh:jfs (bdF j ps) j high q=high:=if_neg (by omega);rw[eh];refine jfy 3 (d:=od (jfx (bdF j ps) j low q)) ?_;unfold s7n jfx;rw[if_pos c1]
  cases low with
  | none=>simp only[stp,joa];rfl
  | some l =>
   have L:=hl.ok l rfl;have el:=jpk (k:=C+S+2) (f:=l) (g:=bdF j ps q) ⟨L.a,L.b⟩ ⟨e2.a,e2.b⟩ (by omega);simp only[stp,joa,jpq,el]
   by_cases c:l.1*(bdF j ps q).2<(bdF j ps q).1*l.2
   ·simp only[if_pos c,decide_eq_true c];rfl
   ·simp only[if_neg c,decide_eq_false c];rfl
 ·rw[w_if tg,if_neg (by simpa using c1)];have el:jfx (bdF j ps) j low q=low:=if_neg c1;rw[el]
  by_cases c2:q.cs.getD j 0<0
  ·obtain⟨e1,e2,_⟩:=jrn hq hu hj hP hS hC h1 (by omega);refine⟨some (pt (bdF j ps q)),?_⟩;rw[w_if tl,if_pos (by simpa using c2)];rw[ja5 (Y':=s7n A j ps low high (some (iq q)) (some (pt (bdF j ps q)))) (by unfold s7n;simp only[stp,e1];rfl)];refine jfy 4 (d:=od (jfs (bdF j ps) j high q)) ?_;unfold s7n jfs;rw[if_pos c2]
   cases high with
   | none=>simp only[stp,joa];rfl
   | some h =>
    have L:=hh.ok h rfl;have el:=jpk (k:=C+S+2) (f:=bdF j ps q) (g:=h) ⟨e2.a,e2.b⟩ ⟨L.a,L.b⟩ (by omega);simp only[stp,joa,jpq,el]
    by_cases c:(bdF j ps q).1*h.2<h.1*(bdF j ps q).2
    ·simp only[if_pos c,decide_eq_true c];rfl
    ·simp only[if_neg c,decide_eq_false c];rfl
  ·refine⟨f,?_⟩;rw[w_if tl,if_neg (by simpa using c2)];have eh:jfs (bdF j ps) j high q=high:=if_neg c2;rw[eh];rfl
theorem jx7{A:Option D}(hu:u<=3)(hj:j+1+ps.length=u)(hP:PtOk ps S)(hS:S<=3900)(hC:C<=480)(h1:1<=C):∀ (qs:List Iq) (low high:Option Fr) (e f:Option D),(∀ q∈qs,IqOk C u q)->OOk (C+S+2) low->OOk (C+S+2) high ->
  ∃ e' f',forD jdn (DL.gName 5) (qs.map iq) (s7n A j ps low high e f)=some (.ok (.nx (s7n A j ps (qs.foldl (jfx (bdF j ps) j) low) (qs.foldl (jfs (bdF j ps) j) high) e' f')))
 | [],low,high,e,f,_,_,_=>⟨e,f,rfl⟩
 | q::qs,low,high,e,f,hq,hl,hh=>by
  have hq0:=hq q zaa;obtain⟨f1,e1⟩:=jEj (A:=A) hq0 hu hj hP hS hC h1 hl hh f;have hf:q.cs.getD j 0≠0->FrOk (C+S+2) (bdF j ps q):=fun z=>(jrn hq0 hu hj hP hS hC h1 z).2.1
  obtain⟨e',f',ih⟩:=jx7 (A:=A) hu hj hP hS hC h1 qs _ _ (some (iq q)) f1 (fun z hz=>hq z (zaw _ hz)) (jrd hl hf) (jrc hh hf);refine⟨e',f',?_⟩;rw[List.map_cons,List.foldl_cons,List.foldl_cons,jcv (d:=iq q) (Y1:=s7n A j ps low high (some (iq q)) f) rfl e1];exact ih
def rowP(r:Iq×List Int):D:=.tup [iq r.1,.lst (r.2.map .int)]
theorem row0(r:Iq×List Int):gIx (rowP r) (.int 0)=some (iq r.1):=by unfold rowP;rw[ix_t,at0]
theorem row1(r:Iq×List Int):gIx (rowP r) (.int 1)=some (.lst (r.2.map .int)):=by unfold rowP;rw[ix_t,at1]
def lowO(j:Nat)(ps:List Fr)(qs:List Iq):Option Fr:=qs.foldl (jfx (bdF j ps) j) none
def jtj(j:Nat)(ps:List Fr)(qs:List Iq):Option Fr:=qs.foldl (jfs (bdF j ps) j) none
theorem jue{rs:List (Iq×List Int)}(hu:u<=3)(hj:j+1+ps.length=u)(hP:PtOk ps S)(hS:S<=3900)(hC:C<=480)(h1:1<=C)(hr:∀ r∈rs,IqOk C u r.1)(hl:rs.length<=100000) :
  jb3 [.lst (rs.map rowP),.int j,.lst (ps.map pt)]=some (.ok (pt (btw (lowO j ps (rs.map (·.1))) (jtj j ps (rs.map (·.1)))))):=by
 have ec:=jcu (c:=[]) (fe:=jfd) (K:=rowP) (F:=fun r=>iq r.1) rs none (fun r hr=>by
  unfold jfd;simp only[stp,row0];rfl)
 have em:rs.map (fun r=>iq r.1)=(rs.map (·.1)).map iq:=by rw[List.map_map];rfl
 rw[em] at ec;have hq:∀ q∈rs.map (·.1),IqOk C u q:=fun q h=>by obtain⟨r,h2,rfl⟩:=zca.mp h;exact hr r h2
 obtain⟨e',f',el⟩:=jx7 (A:=some (.lst (rs.map rowP))) hu hj hP hS hC h1 (rs.map (·.1)) none none none none hq ⟨fun _ z=>nomatch z⟩ ⟨fun _ z=>nomatch z⟩;have hf:∀ q∈rs.map (·.1),q.cs.getD j 0≠0->FrOk (C+S+2) (bdF j ps q):=fun q h z=>(jrn (hq q h) hu hj hP hS hC h1 z).2.1
 have l1:=(jy3 (k:=C+S+2) (rs.map (·.1)) none ⟨fun _ z=>nomatch z⟩ hf).1;have l2:=(jy2 (k:=C+S+2) (rs.map (·.1)) none ⟨fun _ z=>nomatch z⟩ hf).1;have eb:=jro (k:=C+S+2) l1.ok l2.ok (by omega);unfold jb3;rw[jlr];show (jej [some (.lst (rs.map rowP)),some (.int j),some (.lst (ps.map pt)),none,none,none,none]).b outD=_;unfold jej;rw[ja5 (Y':=[some (.lst (rs.map rowP)),some (.int j),some (.lst (ps.map pt)),some .non,none,none,none]) (by simp only[stp];rfl)];rw[ja5 (Y':=s7n (some (.lst (rs.map rowP))) j ps none none none none) (by simp only[stp];rfl)];rw[ja5 (show gFor _ _ _ _=some (.ok (.nx _)) from by
  rw[jew (ds:=(rs.map (·.1)).map iq) (by
   unfold s7n;simp only[stp,ec,jko (ds:=(rs.map (·.1)).map iq) (by rw[zav,zav,sizeLine_eq];omega)];rfl)]
  exact el)]
 unfold s7n lowO jtj;simp only[stp,eb];rfl
end
end
open FM (Fr dt col rests strict lin2 unit InC Gen Sup)
section
theorem jvf{A B:Nat}{as ws:List Int}(ha:∀ a∈as,Bt A a)(hw:∀ w∈ws,Bt B w)(hl:as.length<=1000)(hA:A<=90000)(hB:B<=90000):jcg [.lst (as.map .int),.lst (ws.map .int)]=some (.ok (.int (dt as ws))):=by
 have e:=jdz (c:=[]) (fe:=jdy) (K:=fun p:Int×Int=>(D.int p.1,D.int p.2)) (F:=fun p=>.int (p.1*p.2)) (as.zip ws) none none (fun p hp=>by
  unfold jdy;obtain⟨p1,p2⟩:=zdz hp;have:=ja6 (ha p.1 p1) (hw p.2 p2) (by omega) (by omega);simp only[stp,this];rfl)
 unfold jcg;rw[jd0];unfold jev FM.dt;simp only[stp,e,jcz (ds:=List.map (fun p:Int×Int=>D.int (p.1*p.2)) (as.zip ws)) (by rw[zav,List.length_zip];omega),jp3];rfl
section
variable {A B:Nat}{qs:List Iq}{ws:List Int}{u:Nat}
theorem jmk{q:Iq}(hq:IqOk A u q){p:Nat}(hp:p<u):L2.atI (q.cs.map D.int) (p:Int)=some (.int (q.cs.getD p 0)):=by
 refine DL.atI_get ?_;have:p<q.cs.length:=by rw[hq.len];exact hp
 simp[this]
theorem jpf{q:Iq}(hq:IqOk A u q){p:Nat}(hp:p<u):Bt A (q.cs.getD p 0):=by
 have hl:p<q.cs.length:=by rw[hq.len];exact hp
 rw[zbx,zax hl];exact hq.cs _ (List.getElem_mem hl)
theorem jqf(hq:∀ q∈qs,IqOk A u q){p:Nat}(hp:p<u):∀ a∈col qs p,Bt A a:=fun a ha=>by
 obtain⟨q,h1,rfl⟩:=zca.mp ha;exact jpf (hq q h1) hp
def s7(qs:List Iq)(u:Nat)(ws cs:List Int)(a b c:Option D):DSt:=[some (.lst (qs.map iq)),some (.int u),some (.lst (ws.map .int)),some (.lst (cs.map .int)),a,b,c]
theorem jEh(hq:∀ q∈qs,IqOk A u q)(hw:∀ w∈ws,Bt B w)(hl:qs.length<=10)(hA:A<=90000)(hB:B<=90000){j:Nat}(hj:j<u){cs:List Int}(hc:cs.length<=100) :
  jfa (s7 qs u ws cs (some (.int j)) none none)=some (.ok (.nx (s7 qs u ws (cs++[dt (col qs j) ws]) (some (.int j)) none none))):=by
 have e:=jcu (c:=[some (.int (j:Int))]) (fe:=jhi) (K:=iq) (F:=fun q=>.int (q.cs.getD j 0)) qs none (fun q h1=>by
  unfold jhi;simp only[stp,iq0,jmk (hq q h1) hj];rfl)
 have hm:qs.map (fun q=>D.int (q.cs.getD j 0))=(col qs j).map .int:=by unfold FM.col;rw[List.map_map];rfl
 rw[hm] at e;have e2:=jvf (jqf hq hj) hw (by unfold FM.col;rw[zav];omega) hA hB;unfold jfa;rw[jm8 (d:=.int (dt (col qs j) ws)) (ds:=cs.map .int) 3 (by
  unfold s7;simp only[stp,e,jcz (ds:=(col qs j).map D.int) (by unfold FM.col;rw[zav,zav];omega),e2]) rfl (by rw[zav];omega)]
 unfold s7;rw[List.map_append];rfl
def wIq(L:List Iq)(u:Nat)(w:List Int):Iq:=⟨(List.range u).map fun p=>dt (col L p) w,dt (rests L) w,strict L w⟩
theorem jp5(hu:u<=3)(hq:∀ q∈qs,IqOk A u q)(hw:∀ w∈ws,Bt B w)(hl:qs.length<=10)(hA:A<=90000)(hB:B<=90000) :
  jgz [.lst (qs.map iq),.int u,.lst (ws.map .int)]=some (.ok (iq (wIq qs u ws))):=by
 obtain⟨Y',ef,k,rfl⟩:=jf9 (g:=jfa) (tg:=DL.gName 4) (jap 0 u) (fun j Y=>∃ k,Y=s7 qs u ws ((List.range j).map fun p=>dt (col qs p) ws) k none none)
  (fun j hj Y ⟨k,h3⟩=>by
   subst h3;rw[jl0] at hj;have ee:=jEh hq hw hl hA hB hj (cs:=(List.range j).map fun p=>dt (col qs p) ws) (by simp;omega);refine⟨s7 qs u ws ((List.range j).map fun p=>dt (col qs p) ws) (some (.int j)) none none,?_,_,.inl ee,some (.int j),?_⟩
   ·rw[jr6,jqt,Int.zero_add];rfl
   ·rw[List.range_succ,List.map_append];rfl) (s7 qs u ws [] none none none) ⟨none,rfl⟩
 rw[jl0] at ef;have er:=jcu (c:=[]) (fe:=jhj) (K:=iq) (F:=fun q=>.int q.r) qs none (fun q h1=>by
  unfold jhj;simp only[stp,iq1];rfl)
 have hm:qs.map (fun q=>D.int q.r)=(rests qs).map .int:=by unfold FM.rests;rw[List.map_map];rfl
 rw[hm] at er;have e2:=jvf (as:=rests qs) (ws:=ws) (fun a ha=>by obtain⟨q,h1,rfl⟩:=zca.mp ha;exact (hq q h1).r) hw (by unfold FM.rests;rw[zav];omega) hA hB;have ea:=jdz (c:=[]) (fe:=jhk) (K:=fun p:Iq×Int=>(iq p.1,D.int p.2)) (F:=fun p=>.bl (decide (0<p.2)&&p.1.s)) (qs.zip ws) none none (fun p hp=>by
  unfold jhk;simp only[stp,iq2];cases decide (0<p.2)<;>rfl)
 unfold jgz;rw[jlr];have h:je1 [some (.lst (qs.map iq)),some (.int u),some (.lst (ws.map .int)),none,none,none,none]=some (.ok (.rt (iq (wIq qs u ws)))):=by
  unfold je1;rw[ja5 (Y':=s7 qs u ws [] none none none) (by unfold s7;simp only[stp];rfl)];rw[ja5 (show gFor _ _ _ _=some (.ok (.nx _)) from by rw[jew (ds:=jap 0 u) (by unfold s7;simp only[stp];rfl)];exact ef)];rw[ja5 (Y':=s7 qs u ws ((List.range u).map fun p=>dt (col qs p) ws) k (some (.int (dt (rests qs) ws))) none) (by
   unfold s7;simp only[stp,er,jcz (ds:=(rests qs).map D.int) (by unfold FM.rests;rw[zav,zav];omega),e2];rfl)]
  rw[ja5 (Y':=s7 qs u ws ((List.range u).map fun p=>dt (col qs p) ws) k (some (.int (dt (rests qs) ws))) (some (.bl (strict qs ws)))) (by
   unfold s7;simp only[stp,jk8,ea,jcz (ds:=List.map (fun p:Iq×Int=>D.bl (decide (0<p.2)&&p.1.s)) (qs.zip ws)) (by rw[zav,List.length_zip];omega),jxq];rfl)]
  refine jjn ?_;unfold s7;simp only[stp];rfl
 show (je1 [some (.lst (qs.map iq)),some (.int u),some (.lst (ws.map .int)),none,none,none,none]).b outD=_;rw[h,M.b_ok];rfl
theorem jv3{a w:List Int}(ha:∀ x∈a,Bt A x)(hw:∀ x∈w,Bt B x)(hl:a.length<=10):Bt (A+B+4) (dt a w):=by
 have h:=jta ha hw;have h2:=Nat.mul_le_mul_right (2 ^ (A+B)) hl;have h3:0<2 ^ (A+B):=Nat.two_pow_pos _;unfold Bt;rw[Nat.pow_add];omega
theorem jrh(hq:∀ q∈qs,IqOk A u q)(hw:∀ w∈ws,Bt B w)(hl:qs.length<=10):IqOk (A+B+4) u (wIq qs u ws):=by
 refine⟨by simp[wIq],fun c hc=>?_,?_⟩
 ·obtain⟨p,hp,rfl⟩:=zca.mp hc;exact jv3 (jqf hq (zdc.mp hp)) hw (by unfold FM.col;rw[zav];exact hl)
 ·exact jv3 (fun a ha=>by obtain⟨q,h1,rfl⟩:=zca.mp ha;exact (hq q h1).r) hw (by unfold FM.rests;rw[zav];exact hl)
theorem jk6{L:List Iq}{w:List Int}{p:Nat}(hp:p<u):(wIq L u w).cs.getD p 0=dt (col L p) w:=by
 unfold wIq;rw[zbx,zbb,List.getElem?_range hp];rfl
def rowD(L:List Iq)(u:Nat)(w:List Int):D:=rowP (wIq L u w,w)
theorem jxj{L:List Iq}{i:Nat}{q:Iq}(h:L[i]? = some q)(hq:q.cs.length=u):wIq L u (unit L.length i)=q:=by
 have hi:=(zbc.mp h).1;unfold wIq;have g:∀ a:List Int,dt a (unit L.length i)=a.getD i 0:=fun a=>FM.dt_get (i:=i) (fun j=>FM.unit_get hi) (by rw[FM.unit_len];exact hi)
 obtain⟨cs,r,s⟩:=q;have h1:(List.range u).map (fun p=>dt (col L p) (unit L.length i))=cs:=by
  refine List.ext_getElem (by simpa using hq.symm) fun p p1 p2=>?_
  rw[List.getElem_map,List.getElem_range,g];unfold FM.col;rw[zbx,zbb,h];simp[p2]
 have h2:dt (rests L) (unit L.length i)=r:=by
  rw[g];unfold FM.rests;rw[zbx,zbb,h];rfl
 rw[h1,h2,FM.strict_unit h]
theorem jDa{n i:Nat}(h:i<n):L2.ixN n (i:Int)=some i:=by
 unfold L2.ixN;rw[if_pos (by omega),if_pos (by omega)];rfl
theorem jv8(xs:List D)(j:Nat)(h:j<(jdk 0 xs).length):∃ x,xs[j]? = some x/\(jdk 0 xs)[j]=.tup [.int (j:Int),x]:=by
 obtain⟨x,h1,h2⟩:=jh7 (k:=0) (zax h);refine⟨x,h1,?_⟩;rw[h2,Int.zero_add]
theorem jwa{L:List Iq}(hL:∀ q∈L,q.cs.length=u)(hl:L.length<=10):jel [.lst (L.map iq)]=some (.ok (.lst (((List.range L.length).map (unit L.length)).map (rowD L u)))):=by
 obtain⟨Y',ef,a,b,c,rfl⟩:=jf9 (g:=je8) (tg:=jcq 2 3) (jdk 0 (L.map iq)) (fun j Y=>∃ a b c,Y=[some (.lst (L.map iq)),some (.lst (((List.range j).map (unit L.length)).map (rowD L u))),a,b,c])
  (fun j hj Y ⟨a,b,c,h3⟩=>by
   subst h3;obtain⟨x,hx,ex⟩:=jv8 (L.map iq) j hj;rw[jf8,zav] at hj;rw[zbb] at hx;obtain⟨q,hq,rfl⟩:=Option.map_eq_some_iff.mp hx;refine⟨[some (.lst (L.map iq)),some (.lst (((List.range j).map (unit L.length)).map (rowD L u))),some (.int j),some (iq q),c],?_,[some (.lst (L.map iq)),some (.lst (((List.range (j+1)).map (unit L.length)).map (rowD L u))),some (.int j),some (iq q),some (.lst ((unit L.length j).map .int))],.inl ?_,_,_,_,rfl⟩
   ·rw[ex];rfl
   ·unfold je8;have rp:=jFm (Y:=[some (.lst (L.map iq)),some (.lst (((List.range j).map (unit L.length)).map (rowD L u))),some (.int j),some (iq q),c]) (fl:=jac (fC (.int 0)) fNil) (fb:=fL kLen (jac (fVar 0) fNil)) (.int 0) L.length rfl (by
     simp only[stp,zav]) (by omega)
    rw[ja5 (jfy 4 rp)];rw[ja5 (Y':=[some (.lst (L.map iq)),some (.lst (((List.range j).map (unit L.length)).map (rowD L u))),some (.int j),some (iq q),some (.lst ((unit L.length j).map .int))]) (by
     unfold jtf
     show (match ixN (List.replicate L.length (D.int 0)).length (j:Int) with
      | some j'=>M.p (Out.nx _)
      | none=>none)=_
     rw[List.length_replicate,jDa hj];unfold FM.unit;rw[List.map_set,List.map_replicate];rfl)]
    rw[jm8 (d:=rowP (q,unit L.length j)) (ds:=((List.range j).map (unit L.length)).map (rowD L u)) 1 rfl rfl (by simp;omega)];rw[List.range_succ,List.map_append,List.map_append];have:rowD L u (unit L.length j)=rowP (q,unit L.length j):=by unfold rowD;rw[jxj hq (hL q (zdv hq))]
    have e2:List.map (rowD L u) (List.map (unit L.length) [j])=[rowP (q,unit L.length j)]:=by
     show [rowD L u (unit L.length j)]=_;rw[this]
    rw[e2];rfl) [some (.lst (L.map iq)),some (.lst []),none,none,none] ⟨none,none,none,rfl⟩
 rw[jf8,zav] at ef;unfold jel;rw[jjc];show (jeh [some (.lst (L.map iq)),none,none,none,none]).b outD=_;unfold jeh;rw[ja5 (Y':=[some (.lst (L.map iq)),some (.lst []),none,none,none]) (by simp only[stp];rfl)];rw[ja5 (show gFor _ _ _ _=some (.ok (.nx _)) from by rw[jew (ds:=jdk 0 (L.map iq)) (by simp only[stp];rfl)];exact ef)];rfl
end
end
open FM (Fr dt col rests strict lin2 unit InC Gen Sup)
section
noncomputable def gcdL(v:List Int):Nat:=v.foldl (fun g w=>Nat.gcd g w.natAbs) 0
theorem jqs:∀ (v:List Int) (g:Nat),(v.foldl (fun g w=>Nat.gcd g w.natAbs) g) ∣ g/\∀ x∈v,((v.foldl (fun g w=>Nat.gcd g w.natAbs) g:Nat):Int) ∣ x
 | [],g=>⟨Nat.dvd_refl g,fun x hx=>nomatch hx⟩
 | y::v,g=>by
  obtain⟨h1,h2⟩:=jqs v (Nat.gcd g y.natAbs);rw[List.foldl_cons];refine⟨Nat.dvd_trans h1 (Nat.gcd_dvd_left _ _),fun x hx=>?_⟩;rcases List.mem_cons.mp hx with rfl|hx
  ·exact Int.ofNat_dvd_left.mpr (Nat.dvd_trans h1 (Nat.gcd_dvd_right _ _))
  ·exact h2 x hx
theorem jmq{v:List Int}{x:Int}(h:x∈v):(gcdL v:Int) ∣ x:=(jqs v 0).2 x h
theorem jqr{v:List Int}{x:Int}(h:x∈v)(hx:x≠0):0<gcdL v/\gcdL v<=x.natAbs:=by
 have d:=Int.natAbs_dvd_natAbs.mpr (jmq h);rw[Int.natAbs_natCast] at d;have hp:0<x.natAbs:=by omega
 exact⟨Nat.pos_of_dvd_of_pos d hp,Nat.le_of_dvd hp d⟩
def jhs(v:List Int):List Int:=v.map fun x=>x.fdiv (gcdL v:Int)
theorem jjs{v:List Int}(i:Nat):v.getD i 0=(gcdL v:Int)*(jhs v).getD i 0:=by
 unfold jhs;rw[zbx,zbx,zbb]
 cases h:v[i]? with
 | none=>simp
 | some x =>
  show x=(gcdL v:Int)*x.fdiv (gcdL v:Int);exact (Int.mul_fdiv_cancel' (jmq (zdv h))).symm
theorem jzd{L:List Iq}{k:Nat}{v:List Int}(h:InC L k v):InC L k (jhs v)/\∀ i,0<(jhs v).getD i 0->0<v.getD i 0:=by
 obtain⟨i0,h0⟩:=h.ne;have hm:v.getD i0 0∈v:=by
  rw[zbx] at h0 |-
  cases e:v[i0]? with
  | none=>rw[e] at h0;simp at h0
  | some x=>exact zdv e
 obtain⟨g0,_⟩:=jqr hm (by omega);have g0':(0:Int)<(gcdL v:Int):=by omega
 have sup:∀ i,0<(jhs v).getD i 0->0<v.getD i 0:=fun i hi=>by rw[jjs];exact zcw g0' hi
 refine⟨⟨by unfold jhs;rw[zav];exact h.len,FM.nn_of fun i=>?_,⟨i0,?_⟩,fun j hj=>?_⟩,sup⟩
 ·have:=FM.nn_get h.nn i;rw[jjs] at this;exact Int.nonneg_of_mul_nonneg_right this g0'
 ·rw[jjs] at h0;exact Int.pos_of_mul_pos_right h0 g0'
 ·have e:=FM.dt_scale (a:=1) (b:=(gcdL v:Int)) (c:=col L j) (v:=v) (w:=jhs v) (by unfold jhs;rw[zav]) fun i=>by rw[Int.one_mul];exact jjs i
  rw[Int.one_mul,h.z j hj] at e;rcases Int.mul_eq_zero.mp e.symm with z|z
  ·omega
  ·exact z
theorem jzc{k:Nat}{v:List Int}(h:∀ x∈v,Bt k x):∀ x∈jhs v,Bt k x:=fun x hx=>by
 obtain⟨y,hy,rfl⟩:=zca.mp hx;have:=h y hy
 by_cases h0:(gcdL v:Int)=0
 ·rw[h0];show (y.fdiv 0).natAbs<_;rw[Int.fdiv_zero];exact Nat.two_pow_pos k
 ·exact Nat.lt_of_le_of_lt (FM.fdiv_abs (jmq hy) h0) this
theorem jx5(A B C E F G:Option D)(w:Option D):∀ (v:List Int) (g:Nat) (e:Option D),(∀ x∈v,0<=x/\Bt 8000 x)->∃ e',forD jjz (DL.gName 7) (v.map .int) [A,B,C,E,F,G,some (.int g),e]=some (.ok (.nx [A,B,C,E,F,G,some (.int (v.foldl (fun g w=>Nat.gcd g w.natAbs) g:Nat)),e']))
 | [],g,e,_=>⟨e,rfl⟩
 | x::v,g,e,h=>by
  obtain⟨h0,h1⟩:=h x zaa;obtain⟨e',ih⟩:=jx5 A B C E F G w v (Nat.gcd g x.natAbs) (some (.int x)) fun z hz=>h z (zaw _ hz)
  refine⟨e',?_⟩;have ex:x=((x.natAbs:Nat):Int):=by omega
  have ec:jbt [.int (g:Int),.int x]=some (.ok (.int (Nat.gcd g x.natAbs))):=by
   conv=>lhs;rw[ex]
   exact jBd (zcy h1 (Nat.pow_le_pow_right (by decide) (by decide)))
  rw[List.map_cons,List.foldl_cons,jcv (d:=.int x) (Y1:=[A,B,C,E,F,G,some (.int g),some (.int x)]) rfl (by
   unfold jjz;simp only[stp,ec];rfl)]
  exact ih
theorem jjt{x y:Int}(a b:List Int):(a.zip b).map (fun p=>x*p.1+y*p.2)=lin2 x a y b:=rfl
theorem jts{C B u k:Nat}{q1 q2:Iq}{a b:List Int}(h1:IqOk C u q1)(h2:IqOk C u q2)(hk:k<u)(ha:∀ x∈a,0<=x/\Bt B x)(hb:∀ x∈b,0<=x/\Bt B x)(hC:C+B<=7000)(p1:0<q1.cs.getD k 0)(p2:q2.cs.getD k 0<0)(hl:a.length<=1000)
  (hne:∃ x∈lin2 (-q2.cs.getD k 0) a (q1.cs.getD k 0) b,x≠0) :
  jgw [rowP (q1,a),rowP (q2,b),.int k]=some (.ok (.lst ((jhs (lin2 (-q2.cs.getD k 0) a (q1.cs.getD k 0) b)).map .int))):=by
 have bc1:=jpf h1 hk;have bc2:=jpf h2 hk;have i1:=jmk h1 hk;have i2:=jmk h2 hk;generalize q1.cs.getD k 0=c1 at *;generalize q2.cs.getD k 0=c2 at *;have ec:=jdz (c:=[some (.int (-c2)),some (.int c1)]) (fe:=jj5) (K:=fun p:Int×Int=>(D.int p.1,D.int p.2)) (F:=fun p=>.int (-c2*p.1+c1*p.2)) (a.zip b) none none (fun p hp=>by
  unfold jj5;obtain⟨z1,z2⟩:=zdz hp;have m1:=ja6 bc2.neg (ha p.1 z1).2 (by omega) (by omega);have m2:=ja6 bc1 (hb p.2 z2).2 (by omega) (by omega);simp only[stp,m1,m2];rfl)
 have hm:(a.zip b).map (fun p=>D.int (-c2*p.1+c1*p.2))=(lin2 (-c2) a c1 b).map .int:=by rw[<- jjt,List.map_map];rfl
 rw[hm] at ec;have hv:∀ x∈lin2 (-c2) a c1 b,0<=x/\Bt (C+B+1) x:=fun x hx=>by
  rw[<- jjt] at hx;obtain⟨p,hp,rfl⟩:=zca.mp hx;obtain⟨z1,z2⟩:=zdz hp;have n1:=Int.mul_nonneg (show 0<=-c2 by omega) (ha p.1 z1).1;have n2:=Int.mul_nonneg (zcc p1) (hb p.2 z2).1;exact⟨by omega,Bt.add (bc2.neg.mul (ha p.1 z1).2) (bc1.mul (hb p.2 z2).2)⟩
 have hlv:(lin2 (-c2) a c1 b).length<=1000:=by rw[<- jjt,zav,List.length_zip];omega
 generalize lin2 (-c2) a c1 b=v at *;obtain⟨e',el⟩:=jx5 (some (rowP (q1,a))) (some (rowP (q2,b))) (some (.int k)) (some (.int (-c2))) (some (.int c1)) (some (.lst (v.map .int))) none v 0 none fun x hx=>⟨(hv x hx).1,(hv x hx).2.mono (by omega)⟩
 obtain⟨x0,hx0,nx0⟩:=hne;obtain⟨g0,g1⟩:=jqr hx0 nx0;have bg:Bt 8900 (gcdL v:Int):=by
  have:=((hv x0 hx0).2.mono (show C+B+1<=8900 by omega))
  unfold Bt at this |-
  rw[Int.natAbs_natCast];exact Nat.lt_of_le_of_lt g1 this
 have ed:=jcu (c:=[some (.int (gcdL v:Int))]) (fe:=jj7) (K:=D.int) (F:=fun x=>.int (x.fdiv (gcdL v:Int))) v none (fun x hx=>by
  unfold jj7;simp only[stp,jpd (i:=x) (j:=(gcdL v:Int)) (by omega) bg];rfl)
 have hm2:v.map (fun x=>D.int (x.fdiv (gcdL v:Int)))=(jhs v).map .int:=by unfold jhs;rw[List.map_map];rfl
 rw[hm2] at ed;unfold jgw;rw[jlr];show (jjq [some (rowP (q1,a)),some (rowP (q2,b)),some (.int k),none,none,none,none,none]).b outD=_;unfold jjq;rw[ja5 (Y':=[some (rowP (q1,a)),some (rowP (q2,b)),some (.int k),some (.int (-c2)),none,none,none,none]) (by simp only[stp,row0,iq0,i2];rfl)];rw[ja5 (Y':=[some (rowP (q1,a)),some (rowP (q2,b)),some (.int k),some (.int (-c2)),some (.int c1),none,none,none]) (by simp only[stp,row0,iq0,i1];rfl)];rw[ja5 (Y':=[some (rowP (q1,a)),some (rowP (q2,b)),some (.int k),some (.int (-c2)),some (.int c1),some (.lst (v.map .int)),none,none]) (by
  simp only[stp,row1,jyh,joz,ec,jcz (ds:=v.map D.int) (by rw[zav];omega)];rfl)]
 rw[ja5 (Y':=[some (rowP (q1,a)),some (rowP (q2,b)),some (.int k),some (.int (-c2)),some (.int c1),some (.lst (v.map .int)),some (.int 0),none]) (by simp only[stp];rfl)];rw[ja5 (show gFor _ _ _ _=some (.ok (.nx _)) from by rw[jew (ds:=v.map .int) (by simp only[stp];rfl)];exact el)];have eg:v.foldl (fun g w=>Nat.gcd g w.natAbs) 0=gcdL v:=rfl;rw[eg];simp only[stp,ed,jcz (ds:=(jhs v).map D.int) (by unfold jhs;rw[zav,zav];omega)];rfl
noncomputable def jbe(k:Int):List Int->List Int
 | []=>[]
 | x::w=>if 0<x then k::jbe (k+1) w else jbe (k+1) w
def jc3(w:List Int):List Int:=jbe 0 w
theorem mem_places{i:Int}:∀ {w:List Int} {k:Int},i∈jbe k w↔∃ n:Nat,i=k+n/\0<w.getD n 0
 | [],k=>by simp[jbe]
 | x::w,k=>by
  have ih:=mem_places (i:=i) (w:=w) (k:=k+1);unfold jbe;constructor
  ·intro h;have:i∈jbe (k+1) w\/(i=k/\0<x):=by
    split at h
    ·rcases List.mem_cons.mp h with h|h
     ·exact .inr ⟨h,by assumption⟩
     ·exact .inl h
    ·exact .inl h
   rcases this with h|⟨h1,h2⟩
   ·obtain⟨n,e,p⟩:=ih.mp h;exact⟨n+1,by omega,by simpa using p⟩
   ·exact⟨0,by omega,by simpa using h2⟩
  ·rintro⟨n,e,p⟩
   cases n with
   | zero =>
    have hx:0<x:=by simpa using p
    rw[if_pos hx];exact List.mem_cons.mpr (.inl (by omega))
   | succ n =>
    have:i∈jbe (k+1) w:=ih.mpr ⟨n,by omega,by simpa using p⟩
    split
    ·exact zaw _ this
    ·exact this
theorem jr5{a b:List Int}(h:∀ i∈jc3 a,i∈jc3 b):Sup a b:=fun i hi=>by
 obtain⟨n,e,p⟩:=mem_places.mp (h i (mem_places.mpr ⟨i,by omega,hi⟩));have:n=i:=by omega
 rw[<- this];exact p
theorem jkc:∀ (w:List Int) (k:Int) (x y:Option D),jb0 (jcq 0 1) (DL.t2 gGt (fVar 1) (fC (.int 0))) jcc (jdk k (w.map .int)) [x,y]=some ((jbe k w).map .int)
 | [],k,x,y=>rfl
 | z::w,k,x,y=>by
  have ih:=jkc w (k+1) (some (.int k)) (some (.int z));show jb0 _ _ _ (.tup [.int k,.int z]::jdk (k+1) (w.map .int)) [x,y]=_;unfold jb0 jbe;have t:DL.t2 gGt (fVar 1) (fC (.int 0)) [some (.int k),some (.int z)]=some (.ok (decide (0<z))):=by simp only[stp];rfl
  show (match DL.t2 gGt (fVar 1) (fC (.int 0)) [some (.int k),some (.int z)] with
   | some (.ok true)=>match jcc [some (.int k),some (.int z)] with
    | some (.ok y)=>(jb0 (jcq 0 1) (DL.t2 gGt (fVar 1) (fC (.int 0))) jcc (jdk (k+1) (w.map .int)) [some (.int k),some (.int z)]).map (y::·)
    | _=>none
   | some (.ok false)=>jb0 (jcq 0 1) (DL.t2 gGt (fVar 1) (fC (.int 0))) jcc (jdk (k+1) (w.map .int)) [some (.int k),some (.int z)]
   | _=>none)=_
  rw[t,ih]
  by_cases c:0<z
  ·rw[decide_eq_true c,if_pos c];rfl
  ·rw[decide_eq_false c,if_neg c]
theorem jiz:∀ (w:List Int) (k:Int),(jbe k w).length<=w.length
 | [],_=>zac _
 | x::w,k=>by
  have:=jiz w (k+1);unfold jbe
  split<;>(simp only[List.length_cons];omega)
theorem juq{w:List Int}(hl:w.length<=1000):jb7 [.lst (w.map .int)]=some (.ok (kD (jc3 w))):=by
 have e:=jkc w 0 none none;have:=jiz w 0;unfold jb7;rw[jjc];unfold jib;have ee:jgo [.lst (w.map D.int)]=some (jdk 0 (w.map D.int)):=rfl;simp only[stp,ee,e,jcz (ds:=(jbe 0 w).map D.int) (by rw[zav];omega)];rfl
noncomputable def jpj(a b:List Int):Bool:=decide (a.length<b.length)&&a.all fun x=>b.contains x
theorem jy7(x:Int)(b:List Int):gIn (.int x) (kD b)=some (.bl (b.contains x)):=by
 unfold gIn kD;show (if (jjk (.int x)&&(b.map D.int).all jjk)=true then some (D.bl (inD (.int x) (b.map D.int))) else none)=_;have h:(b.map D.int).all jjk=true:=List.all_eq_true.mpr fun d hd=>by
  obtain⟨i,_,rfl⟩:=zca.mp hd;rfl
 rw[if_pos (show (jjk (.int x)&&(b.map D.int).all jjk)=true from by rw[h];rfl)];congr 2;unfold inD;rw[List.any_map,Bool.eq_iff_iff,List.any_eq_true,zcx];constructor
 ·rintro⟨y,hy,e⟩;have e':(y == x)=true:=e;rw[beq_iff_eq] at e';rw[<- e'];exact hy
 ·intro hx;exact⟨x,hx,(show (x == x)=true from beq_self_eq_true x)⟩
theorem jrw{a b:List Int}(hl:a.length<=1000):jem [kD a,kD b]=some (.ok (.bl (jpj a b))):=by
 have e:=jcu (c:=[some (kD b)]) (fe:=jfb) (K:=D.int) (F:=fun x=>.bl (b.contains x)) a none (fun x hx=>by
  unfold jfb;simp only[stp,jy7];rfl)
 have hlen:decide (((a.map D.int).length:Int)<((b.map D.int).length:Int))=decide (a.length<b.length):=by
  rw[zav,zav]
  by_cases h:a.length<b.length
  ·rw[decide_eq_true h,decide_eq_true (by omega)]
  ·rw[decide_eq_false h,decide_eq_false (by omega)]
 have kl:∀ z:List Int,kLen [kD z]=some (.int ((z.map D.int).length:Int)):=fun z=>rfl
 have sq:seqD (kD a)=some (a.map D.int):=rfl;unfold jem;rw[jd0];unfold jgb jpj;simp only[stp,kl,hlen,sq,e,jcz (ds:=List.map (fun x:Int=>D.bl (b.contains x)) a) (by rw[zav];omega),jA5];cases decide (a.length<b.length)<;>rfl
end
open FM (Fr dt col rests strict lin2 unit InC Gen Sup)
section
section
variable {α β:Type}{Y Y':DSt}{Ω Ω1 Ω':Sto}
theorem v_b{m:MS α}{f:α->MS β}{a:α}(h:m Ω=some (.ok a,Ω1)):(m.b f) Ω=f a Ω1:=by rw[s_b,h,jm3]
theorem u_l{f:DSt->M α}{a:α}(h:f Y=some (.ok a)):lF f Y Ω=some (.ok a,Ω):=by rw[s_lF,h];rfl
theorem jea{g1 g2:DSt->MS Out}(h:g1 Y Ω=some (.ok (.nx Y'),Ω')):eSeq g1 g2 Y Ω=g2 Y' Ω':=by rw[jEd,s_b,h,jm3,jAn]
theorem u_rt{g1 g2:DSt->MS Out}{d:D}(h:g1 Y Ω=some (.ok (.rt d),Ω')):eSeq g1 g2 Y Ω=some (.ok (.rt d),Ω'):=by rw[jEd,s_b,h,jm3,jAo];rfl
theorem jxh{i:Nat}{fa:DSt->MS D}{d:D}(h:fa Y Ω=some (.ok d,Ω')):eSet i fa Y Ω=some (.ok (.nx (Y.set i (some d))),Ω'):=by rw[jGq,s_b,h,jm3];rfl
theorem jEr{fa:DSt->MS D}{d:D}(h:fa Y Ω=some (.ok d,Ω')):jv5 fa Y Ω=some (.ok (.nx Y),Ω'):=by rw[jEb,s_b,h,jm3];rfl
theorem jEs{fa:DSt->MS D}{d:D}(h:fa Y Ω=some (.ok d,Ω')):eRet fa Y Ω=some (.ok (.rt d),Ω'):=by rw[jGp,s_b,h,jm3];rfl
theorem u_if{t:DSt->MS Bool}{g1 g2:DSt->MS Out}{b:Bool}(h:t Y Ω=some (.ok b,Ω')):eIf t g1 g2 Y Ω=(if b=true then g1 Y else g2 Y) Ω':=by rw[s_if,s_b,h,jm3]
theorem jl5{m:List D->MS D}{fl:DSt->MS (List D)}{ds:List D}(h:fl Y Ω=some (.ok ds,Ω1)):jid m fl Y Ω=m ds Ω1:=by rw[jEa,s_b,h,jm3]
theorem jxg{fi:DSt->MS (List D)}{tg:D->DSt->Option DSt}{g:DSt->MS Out}{ds:List D}(h:fi Y Ω=some (.ok ds,Ω')):eFor fi tg g Y Ω=forE g tg ds Y Ω':=by rw[jGo,s_b,h,jm3]
theorem jh9{g:DSt->MS Out}{tg:D->DSt->Option DSt}{d:D}{ds:List D}{Y1 Y2:DSt}(h1:tg d Y=some Y1)(h2:g Y1 Ω=some (.ok (.nx Y2),Ω1)):forE g tg (d::ds) Y Ω=forE g tg ds Y2 Ω1:=by
 show (match tg d Y with|none=>(fun _=>none:MS Out)|some Y1=>(g Y1).b _) Ω=_;rw[h1];show ((g Y1).b _) Ω=_;rw[v_b h2]
end
theorem jsx{h:D->DSt->Option DSt}{tc:DSt->M Bool}{fe:DSt->MS D}{d y:D}{ds ys:List D}{Y Y1:DSt}{Ω Ω1 Ω2:Sto}(e1:h d Y=some Y1)(e2:tc Y1=some (.ok true))(e3:fe Y1 Ω=some (.ok y,Ω1))(e4:jfw h tc fe ds Y1 Ω1=some (.ok ys,Ω2)) :
  jfw h tc fe (d::ds) Y Ω=some (.ok (y::ys),Ω2):=by
 unfold jfw;rw[e1];dsimp only;rw[e2];dsimp only;rw[v_b e3,v_b e4];rfl
theorem jvr{h:D->DSt->Option DSt}{tc:DSt->M Bool}{fe:DSt->MS D}{d:D}{ds:List D}{Y Y1:DSt}{Ω:Sto}{r:Option (Except XD (List D)×Sto)}(e1:h d Y=some Y1)(e2:tc Y1=some (.ok false))(e4:jfw h tc fe ds Y1 Ω=r):jfw h tc fe (d::ds) Y Ω=r:=by
 unfold jfw;rw[e1];dsimp only;rw[e2];exact e4
abbrev Row:=Iq×List Int
abbrev KR:=List (List Int×Row)
def kvD(kr:KR):List (List Int×D):=kr.map fun p=>(p.1,rowP p.2)
noncomputable def jkn(kr:KR)(k:List Int):Option Row:=(kr.find? fun p=>decide (p.1=k)).map (·.2)
theorem jqx(kr:KR)(k:List Int):jpl (kvD kr) k=(jkn kr k).map rowP:=by
 unfold jpl jkn kvD;rw[List.find?_map,Option.map_map,Option.map_map];rfl
def setR(kr:KR)(r:Row):KR:=match jkn kr (jc3 r.2) with
 | some _=>kr
 | none=>kr++[(jc3 r.2,r)]
theorem jny:∀ k:List Int,jiv (k.map .int)=some k
 | []=>rfl
 | x::k=>by
  have:=jny k;show (jiv (k.map .int)).map (x::·)=_;rw[this];rfl
theorem jCe{α:Type}(k:List Int)(m:List Int->MS α):keyK (kD k) m=m k:=by
 unfold keyK;have:tupI (kD k)=some k:=jny k;rw[this]
theorem jl7{Ω0:Sto}{x:SO}:(Ω0++[x])[Ω0.length]? = some x:=by rw[List.getElem?_append_right (zac _),Nat.sub_self];rfl
theorem jm6{Ω0:Sto}{x y:SO}:(Ω0++[x]).set Ω0.length y=Ω0++[y]:=by rw[List.set_append_right _ _ (zac _),Nat.sub_self];rfl
theorem jq9(kr:KR)(r:Row):(setR kr r).length<=kr.length+1:=by
 unfold setR
 split
 ·omega
 ·rw[zdb];exact zac _
theorem jAs{A e:Option D}{Ω0:Sto}{kr:KR}{r:Row}(hl:r.2.length<=1000)(hk:kr.length<1000000) :
  jhx [A,some (.obj Ω0.length),some (rowP r),e] (Ω0++[.dct (kvD kr)])=some (.ok (.nx [A,some (.obj Ω0.length),some (rowP r),e]),Ω0++[.dct (kvD (setR kr r))]):=by
 have ep:ja2 jb7 (jac (f2 gIx (fVar 2) (fC (.int 1))) fNil) [A,some (.obj Ω0.length),some (rowP r),e]=some (.ok (kD (jc3 r.2))):=by
  simp only[stp,row1,juq hl]
 have hz:(kvD kr).length<sizeLine:=by unfold kvD;rw[zav,sizeLine_eq];omega
 unfold jhx;have key:∃ d,mSdT (lF (fVar 1)) (ja2 jb7 (jac (f2 gIx (fVar 2) (fC (.int 1))) fNil)) (lF (fVar 2)) [A,some (.obj Ω0.length),some (rowP r),e] (Ω0++[.dct (kvD kr)])=some (.ok d,Ω0++[.dct (kvD (setR kr r))]):=by
  unfold mSdT;have e1:lF (fVar 1) [A,some (D.obj Ω0.length),some (rowP r),e] (Ω0++[.dct (kvD kr)])=some (.ok (D.obj Ω0.length),Ω0++[.dct (kvD kr)]):=u_l rfl;have e2:chkD (D.obj Ω0.length) (Ω0++[.dct (kvD kr)])=some (.ok (D.obj Ω0.length),Ω0++[.dct (kvD kr)]):=by unfold chkD;dsimp only;rw[jl7]
  have e3:lF (fVar 2) [A,some (D.obj Ω0.length),some (rowP r),e] (Ω0++[.dct (kvD kr)])=some (.ok (rowP r),Ω0++[.dct (kvD kr)]):=u_l rfl;rw[v_b e1,v_b e2,ep];show ∃ d,keyK (kD (jc3 r.2)) _ _=_;rw[jCe,v_b e3];unfold atG;dsimp only;rw[jl7];dsimp only;unfold gSdD;rw[if_pos hz,jqx];unfold setR
  cases h:jkn kr (jc3 r.2) with
  | some z=>exact⟨_,by show some (Except.ok _,(Ω0++[SO.dct (kvD kr)]).set Ω0.length (.dct (kvD kr)))=_;rw[jm6]⟩
  | none=>exact⟨_,by
    show some (Except.ok _,(Ω0++[SO.dct (kvD kr)]).set Ω0.length (.dct (kvD kr++[(jc3 r.2,rowP r)])))=_;rw[jm6];unfold kvD;rw[List.map_append];rfl⟩
 obtain⟨d,h⟩:=key;exact jEr h
theorem jt4{A f:Option D}{Ω0:Sto}:∀ (rs:List Row) (kr:KR) (e:Option D),(∀ r∈rs,r.2.length<=1000)->kr.length+rs.length<=500000 ->
  ∃ e',forE jhx (DL.gName 2) (rs.map rowP) [A,some (.obj Ω0.length),e,f] (Ω0++[.dct (kvD kr)])=some (.ok (.nx [A,some (.obj Ω0.length),e',f]),Ω0++[.dct (kvD (rs.foldl setR kr))])
 | [],kr,e,_,_=>⟨e,rfl⟩
 | r::rs,kr,e,h,hk=>by
  rw[List.length_cons] at hk;have:=jq9 kr r;obtain⟨e',ih⟩:=jt4 (A:=A) (f:=f) (Ω0:=Ω0) rs (setR kr r) (some (rowP r)) (fun z hz=>h z (zaw _ hz)) (by omega);refine⟨e',?_⟩;rw[List.map_cons,List.foldl_cons,jh9 (Y1:=[A,some (.obj Ω0.length),some (rowP r),f]) rfl (jAs (h r zaa) (by omega))];exact ih
structure KrOk(rs:List Row)(kr:KR):Prop where
 nd:(kr.map (·.1)).Nodup
 of:∀ p∈kr,p.1=jc3 p.2.2/\p.2∈rs
 has:∀ r∈rs,∃ p∈kr,p.1=jc3 r.2
theorem jlt{kr:KR}{k:List Int}(h:jkn kr k=none):∀ p∈kr,p.1≠k:=fun p hp e=>by
 unfold jkn at h;rw[Option.map_eq_none_iff,List.find?_eq_none] at h;exact h p hp (by simpa using e)
theorem jlu{kr:KR}{k:List Int}{r:Row}(h:jkn kr k=some r):∃ p∈kr,p.1=k/\p.2=r:=by
 unfold jkn at h;obtain⟨p,h1,h2⟩:=Option.map_eq_some_iff.mp h;exact⟨p,List.mem_of_find?_eq_some h1,by simpa using List.find?_some h1,h2⟩
theorem jtv{rs:List Row}{kr:KR}{r:Row}(h:KrOk rs kr):KrOk (rs++[r]) (setR kr r):=by
 unfold setR
 cases e:jkn kr (jc3 r.2) with
 | some z =>
  obtain⟨p,p1,p2,p3⟩:=jlu e;refine⟨h.nd,fun q hq=>⟨(h.of q hq).1,zdy _ (h.of q hq).2⟩,fun s hs=>?_⟩;rcases zey.mp hs with hs|hs
  ·exact h.has s hs
  ·cases zex.mp hs;exact⟨p,p1,p2⟩
 | none =>
  have no:=jlt e;refine⟨?_,fun q hq=>?_,fun s hs=>?_⟩
  ·rw[List.map_append];refine List.nodup_append.mpr ⟨h.nd,by simp,fun a ha b hb=>?_⟩;obtain⟨p,hp,rfl⟩:=zca.mp ha;rw[List.map_singleton,zex] at hb;rw[hb];exact no p hp
  ·rcases zey.mp hq with hq|hq
   ·exact⟨(h.of q hq).1,zdy _ (h.of q hq).2⟩
   ·cases zex.mp hq;exact⟨rfl,by simp⟩
  ·rcases zey.mp hs with hs|hs
   ·obtain⟨p,p1,p2⟩:=h.has s hs;exact⟨p,zdy _ p1,p2⟩
   ·cases zex.mp hs;exact⟨(jc3 r.2,r),by simp,rfl⟩
theorem jn1:∀ (rs done:List Row) (kr:KR),KrOk done kr->KrOk (done++rs) (rs.foldl setR kr)
 | [],done,kr,h=>by rw[List.append_nil];exact h
 | r::rs,done,kr,h=>by
  have:=jn1 rs (done++[r]) _ (jtv (r:=r) h);rw[List.append_assoc] at this;exact this
def krF(rs:List Row):KR:=rs.foldl setR []
theorem jn0(rs:List Row):KrOk rs (krF rs):=jn1 rs [] [] ⟨by simp,(fun p hp=>nomatch hp),(fun r hr=>nomatch hr)⟩
theorem jt1{kr:KR}(nd:(kr.map (·.1)).Nodup){p:List Int×Row}(hp:p∈kr):jkn kr p.1=some p.2:=by
 cases e:jkn kr p.1 with
 | none=>exact absurd rfl (jlt e p hp)
 | some r =>
  obtain⟨q,q1,q2,q3⟩:=jlu e;have:q=p:=by
   have pw:=List.pairwise_map.mp nd
   by_cases z:q=p
   ·exact z
   ·exact absurd q2 (by
     rcases List.mem_iff_getElem.mp q1 with ⟨i,hi,ei⟩;rcases List.mem_iff_getElem.mp hp with ⟨j,hj,ej⟩;have hij:i≠j:=fun w=>z (by subst w;rw[<- ei,<- ej])
     rcases Nat.lt_or_gt_of_ne hij with w|w
     ·have:=List.pairwise_iff_getElem.mp pw i j hi hj w;rw[ei,ej] at this;exact this
     ·have:=List.pairwise_iff_getElem.mp pw j i hj hi w;rw[ei,ej] at this;exact fun v=>this v.symm)
  rw[<- q3,this]
def minR(kr:KR)(p:List Int×Row):Bool:=!(kr.any fun o=>jpj o.1 p.1)
def jmv(rs:List Row):List Row:=((krF rs).filter (minR (krF rs))).map (·.2)
theorem lessF_iff{a b:List Int}:jpj a b=true↔a.length<b.length/\∀ x∈a,x∈b:=by
 unfold jpj;rw[Bool.and_eq_true,decide_eq_true_eq,List.all_eq_true];constructor
 ·rintro⟨h1,h2⟩;exact⟨h1,fun x hx=>zcx.mp (h2 x hx)⟩
 ·rintro⟨h1,h2⟩;exact⟨h1,fun x hx=>zcx.mpr (h2 x hx)⟩
theorem jn4{kr:KR}:∀ (n:Nat) (p:List Int×Row),p.1.length<=n->p∈kr->∃ q∈kr.filter (minR kr),∀ x∈q.1,x∈p.1
 | n,p,hn,hp=>by
  by_cases c:minR kr p=true
  ·exact⟨p,zdx.mpr ⟨hp,c⟩,fun x hx=>hx⟩
  ·unfold minR at c;rw[Bool.not_eq_true',Bool.not_eq_false] at c;obtain⟨o,ho,hl⟩:=List.any_eq_true.mp c;obtain⟨h1,h2⟩:=lessF_iff.mp hl
   cases n with
   | zero=>omega
   | succ n =>
    obtain⟨q,q1,q2⟩:=jn4 n o (by omega) ho;exact⟨q,q1,fun x hx=>h2 x (q2 x hx)⟩
theorem jn7{rs:List Row}{r:Row}(h:r∈jmv rs):r∈rs:=by
 obtain⟨p,hp,rfl⟩:=zca.mp h;exact ((jn0 rs).of p (zdx.mp hp).1).2
theorem jub{rs:List Row}{r:Row}(h:r∈rs):∃ c∈jmv rs,Sup c.2 r.2:=by
 obtain⟨p,p1,p2⟩:=(jn0 rs).has r h;obtain⟨q,q1,q2⟩:=jn4 _ p (zac _) p1;refine⟨q.2,zca.mpr ⟨q,q1,rfl⟩,jr5 fun i hi=>?_⟩;rw[<- p2];refine q2 i ?_;rw[((jn0 rs).of q (zdx.mp q1).1).1];exact hi
theorem jfr:∀ (rs:List Row) (kr:KR),(rs.foldl setR kr).length<=kr.length+rs.length
 | [],kr=>zac _
 | r::rs,kr=>by
  have:=jfr rs (setR kr r);have:=jq9 kr r;rw[List.foldl_cons,List.length_cons];omega
theorem jn6(rs:List Row):(jmv rs).length<=rs.length:=by
 have:=jfr rs [];unfold jmv;rw[zav];exact zez (List.length_filter_le _ _) (by unfold krF;simpa using this)
theorem jnn{Ω0:Sto}{kr:KR}(nd:(kr.map (·.1)).Nodup)(hk:∀ p∈kr,p.1.length<=1000)(hl:kr.length<=500000):∀ (ps:KR) (x:Option D),(∀ p∈ps,p∈kr) ->
  jfw (DL.gName 0) jio jhy (ps.map fun p=>kD p.1) [x,some (.obj Ω0.length),some (.lst (kr.map fun p=>kD p.1))] (Ω0++[.dct (kvD kr)])=some (.ok (((ps.filter (minR kr)).map (·.2)).map rowP),Ω0++[.dct (kvD kr)])
 | [],x,_=>rfl
 | p::ps,x,h=>by
  have ih:=jnn (Ω0:=Ω0) nd hk hl ps (some (kD p.1)) fun q hq=>h q (zaw _ hq)
  have hp:=h p zaa;have ec:=jcu (c:=[some (kD p.1)]) (fe:=jj6) (K:=fun q:List Int×Row=>kD q.1) (F:=fun q=>.bl (jpj q.1 p.1)) kr none (fun q hq=>by
   unfold jj6;simp only[stp,jrw (hk q hq)])
  have et:jio [some (kD p.1),some (.obj Ω0.length),some (.lst (kr.map fun p=>kD p.1))]=some (.ok (minR kr p)):=by
   unfold jio minR;simp only[stp,ec,jko (ds:=List.map (fun q:List Int×Row=>D.bl (jpj q.1 p.1)) kr) (by rw[zav,sizeLine_eq];omega),jxq];rfl
  have eg:jhy [some (kD p.1),some (.obj Ω0.length),some (.lst (kr.map fun p=>kD p.1))] (Ω0++[.dct (kvD kr)])=some (.ok (rowP p.2),Ω0++[.dct (kvD kr)]):=by
   unfold jhy jzl;have e1:lF (fVar 1) [some (kD p.1),some (D.obj Ω0.length),some (.lst (kr.map fun p=>kD p.1))] (Ω0++[.dct (kvD kr)])=some (.ok (D.obj Ω0.length),Ω0++[.dct (kvD kr)]):=u_l rfl;have e2:lF (fVar 0) [some (kD p.1),some (D.obj Ω0.length),some (.lst (kr.map fun p=>kD p.1))] (Ω0++[.dct (kvD kr)])=some (.ok (kD p.1),Ω0++[.dct (kvD kr)]):=u_l rfl;rw[v_b e1,v_b e2,jCe];unfold atG;dsimp only;rw[jl7];dsimp only;unfold gIxD;rw[jqx,jt1 nd hp];show some (Except.ok _,(Ω0++[SO.dct (kvD kr)]).set Ω0.length (.dct (kvD kr)))=_;rw[jm6]
  rw[List.map_cons]
  by_cases c:minR kr p=true
  ·rw[List.filter_cons,if_pos c];rw[c] at et;exact jsx rfl et eg ih
  ·rw[Bool.not_eq_true] at c;rw[List.filter_cons,if_neg (by rw[c];decide)];rw[c] at et;exact jvr rfl et ih
theorem juc{rs:List Row}(hr:∀ r∈rs,r.2.length<=1000)(hl:rs.length<=100000)(Ω0:Sto):∃ G,jju [.lst (rs.map rowP)] Ω0=some (.ok (.lst ((jmv rs).map rowP)),Ω0++G):=by
 refine⟨[.dct (kvD (krF rs))],?_⟩;obtain⟨e',el⟩:=jt4 (A:=some (.lst (rs.map rowP))) (f:=none) (Ω0:=Ω0) rs [] none hr (by simp;omega);have hkl:(krF rs).length<=100000:=by
  have:=jfr rs [];unfold krF;simp at this;omega
 have ec:=jnn (Ω0:=Ω0) (jn0 rs).nd (fun p hp=>by
  obtain⟨h1,h2⟩:=(jn0 rs).of p hp;rw[h1];exact zez (jiz _ 0) (hr _ h2)) (by omega) (krF rs) none fun p hp=>hp
 unfold jju;rw[ju2];refine (v_b (a:=.rt (.lst ((jmv rs).map rowP))) (Ω1:=Ω0++[.dct (kvD (krF rs))]) ?_).trans rfl;show jjr [some (.lst (rs.map rowP)),none,none,none] Ω0=_;unfold jjr;rw[jea (Y':=[some (.lst (rs.map rowP)),some (.obj Ω0.length),none,none]) (Ω':=Ω0++[.dct (kvD [])]) rfl];rw[jea (show eFor _ _ _ _ _=some (.ok (.nx _),_) from by rw[jxg (ds:=rs.map rowP) (u_l rfl)];exact el)];rw[jea (Y':=[some (.lst (rs.map rowP)),some (.obj Ω0.length),e',some (.lst ((krF rs).map fun p=>kD p.1))]) (Ω':=Ω0++[.dct (kvD (krF rs))]) (by
  refine jxh (i:=3) (d:=.lst ((krF rs).map fun p=>kD p.1)) ?_;show (MS.b _ jtz) _=_;rw[v_b (a:=[.obj Ω0.length]) (Ω1:=Ω0++[.dct (kvD (krF rs))]) rfl];unfold jtz;dsimp only;rw[jl7];dsimp only;unfold kvD;rw[List.map_map];rfl)]
 refine jEs ?_;unfold jt5;have e1:lF (jcr (fVar 3)) [some (.lst (rs.map rowP)),some (D.obj Ω0.length),e',some (.lst ((krF rs).map fun p=>kD p.1))] (Ω0++[.dct (kvD (krF rs))])=some (.ok ((krF rs).map fun p=>kD p.1),Ω0++[.dct (kvD (krF rs))]):=u_l rfl;rw[v_b e1];rw[if_pos (by rw[zav,sizeLine_eq];omega)];rw[v_b (a:=((jmv rs).map rowP)) (Ω1:=Ω0++[.dct (kvD (krF rs))]) ec];have:=jn6 rs;rw[jko (by rw[zav,sizeLine_eq];omega)];rfl
end
open FM (Fr dt col rests strict lin2 unit InC Gen Sup)
section
theorem jey{α:Type}{c:DSt}{tc:DSt->M Bool}{fe:DSt->M D}{K:α->D}{p:α->Bool}:∀ (ws:List α) (x:Option D),(∀ w∈ws,tc (some (K w)::c)=some (.ok (p w)))->(∀ w∈ws,fe (some (K w)::c)=some (.ok (K w))) ->
  jb0 (DL.gName 0) tc fe (ws.map K) (x::c)=some ((ws.filter p).map K)
 | [],x,_,_=>rfl
 | w::ws,x,h1,h2=>by
  have ih:=jey ws (some (K w)) (fun z hz=>h1 z (zaw _ hz)) fun z hz=>h2 z (zaw _ hz)
  have t:=h1 w zaa;have f:=h2 w zaa;rw[List.map_cons];unfold jb0;rw[jqt]
  show (match tc (some (K w)::c) with
   | some (.ok true)=>match fe (some (K w)::c) with
    | some (.ok y)=>(jb0 (DL.gName 0) tc fe (ws.map K) (some (K w)::c)).map (y::·)
    | _=>none
   | some (.ok false)=>jb0 (DL.gName 0) tc fe (ws.map K) (some (K w)::c)
   | _=>none)=_
  rw[t,f,ih,List.filter_cons];cases p w<;>rfl
def cF(L:List Iq)(k:Nat)(w:List Int):Int:=dt (col L k) w
def zW(L:List Iq)(k:Nat)(ws:List (List Int)):List (List Int):=ws.filter fun w=>cF L k w == 0
def pW(L:List Iq)(k:Nat)(ws:List (List Int)):List (List Int):=ws.filter fun w=>decide (0<cF L k w)
def nW(L:List Iq)(k:Nat)(ws:List (List Int)):List (List Int):=ws.filter fun w=>decide (cF L k w<0)
def jF(L:List Iq)(k:Nat)(a b:List Int):List Int:=jhs (lin2 (-cF L k b) a (cF L k a) b)
def jdc(L:List Iq)(k:Nat)(ws:List (List Int)):List (List Int):=zW L k ws++(pW L k ws).flatMap fun a=>(nW L k ws).map fun b=>jF L k a b
def toR(L:List Iq)(u:Nat)(w:List Int):Row:=(wIq L u w,w)
def jn8(L:List Iq)(u k:Nat)(ws:List (List Int)):List (List Int):=(jmv ((jdc L k ws).map (toR L u))).map (·.2)
theorem jud(L:List Iq)(u k:Nat)(ws:List (List Int)):(jmv ((jdc L k ws).map (toR L u))).map rowP=(jn8 L u k ws).map (rowD L u):=by
 unfold jn8;rw[List.map_map];refine List.map_congr_left fun r hr=>?_
 obtain⟨w,_,rfl⟩:=zca.mp (jn7 hr);rfl
theorem joi{L:List Iq}{k:Nat}:∀ ws:List (List Int),(zW L k ws).length+(pW L k ws).length+(nW L k ws).length=ws.length
 | []=>rfl
 | w::ws=>by
  have ih:=joi (L:=L) (k:=k) ws;unfold zW pW nW at *;rw[List.filter_cons,List.filter_cons,List.filter_cons,List.length_cons];rcases Int.lt_trichotomy (cF L k w) 0 with c|c|c
  ·rw[if_neg (by simp;omega),if_neg (by simp;omega),if_pos (by simpa using c)];simp only[List.length_cons];omega
  ·rw[if_pos (by simpa using c),if_neg (by simp;omega),if_neg (by simp;omega)];simp only[List.length_cons];omega
  ·rw[if_neg (by simp;omega),if_pos (by simpa using c),if_neg (by simp;omega)];simp only[List.length_cons];omega
theorem jwb(p q:Nat):4*(p*q)<=(p+q)*(p+q):=by
 rcases Nat.le_total p q with h|h
 ·obtain⟨d,rfl⟩:=Nat.le.dest h;have:(p+(p+d))*(p+(p+d))=4*(p*(p+d))+d*d:=by grind
  omega
 ·obtain⟨d,rfl⟩:=Nat.le.dest h;have:(q+d+q)*(q+d+q)=4*((q+d)*q)+d*d:=by grind
  omega
theorem jnv{L:List Iq}{k:Nat}(ws:List (List Int)){m:Nat}(h:ws.length<=m):4*(jdc L k ws).length<=4*m+m*m:=by
 have h1:=joi (L:=L) (k:=k) ws;have h2:(jdc L k ws).length=(zW L k ws).length+(pW L k ws).length*(nW L k ws).length:=by
  unfold jdc;rw[zdb,List.length_flatMap];congr 1;rw[show (fun a=>((nW L k ws).map fun b=>jF L k a b).length)=fun _=>(nW L k ws).length from by funext a;rw[zav]];rw[List.map_const',List.sum_replicate_nat]
 have h3:=jwb (pW L k ws).length (nW L k ws).length;have h4:(pW L k ws).length+(nW L k ws).length<=m:=by omega
 have h5:=Nat.mul_le_mul h4 h4;rw[h2];omega
structure StOk(L:List Iq)(k B m:Nat)(ws:List (List Int)):Prop where
 gen:Gen L k ws
 bt:∀ w∈ws,∀ x∈w,Bt B x
 len:ws.length<=m
section
variable {A B u k m:Nat}{L:List Iq}{ws:List (List Int)}
theorem jwf(hL:∀ q∈L,IqOk A u q)(hl:L.length<=10)(hk:k<u)(S:StOk L k B m ws){a b:List Int}(ha:a∈pW L k ws)(hb:b∈nW L k ws) :
  InC L (k+1) (jF L k a b)/\(∀ i,0<(jF L k a b).getD i 0->0<a.getD i 0\/0<b.getD i 0)/\∀ x∈jF L k a b,Bt (A+B+4+B+1) x:=by
 obtain⟨a1,a2⟩:=zdx.mp ha;obtain⟨b1,b2⟩:=zdx.mp hb;have pa:0<cF L k a:=by simpa using a2
 have pb:cF L k b<0:=by simpa using b2
 have ca:=S.gen.all a a1;have cb:=S.gen.all b b1;have hv:=FM.joined_in ca cb pa pb;obtain⟨j1,j2⟩:=jzd hv;have lv:a.length=b.length:=by rw[ca.len,cb.len]
 refine⟨j1,fun i hi=>?_,jzc fun x hx=>?_⟩
 ·have h:=j2 i hi;rw[FM.lin2_get i lv] at h;have na:=FM.nn_get ca.nn i;have nb:=FM.nn_get cb.nn i
  by_cases c:0<a.getD i 0
  ·exact .inl c
  ·right
   have:a.getD i 0=0:=by omega
   rw[this,Int.mul_zero,Int.zero_add] at h;exact Int.pos_of_mul_pos_right h pa
 ·rw[<- jjt] at hx;obtain⟨p,hp,rfl⟩:=zca.mp hx;obtain⟨z1,z2⟩:=zdz hp;have c1:Bt (A+B+4) (cF L k a):=jv3 (jqf hL hk) (S.bt a a1) (by unfold FM.col;rw[zav];exact hl);have c2:Bt (A+B+4) (cF L k b):=jv3 (jqf hL hk) (S.bt b b1) (by unfold FM.col;rw[zav];exact hl);exact Bt.add (c2.neg.mul (S.bt a a1 _ z1)) (c1.mul (S.bt b b1 _ z2))
theorem jqp(hL:∀ q∈L,IqOk A u q)(hl:L.length<=10)(hk:k<u)(S:StOk L k B m ws):Gen L (k+1) (jdc L k ws)/\∀ w∈jdc L k ws,∀ x∈w,Bt (A+B+4+B+1) x:=by
 have mem:∀ w,w∈jdc L k ws->(w∈ws/\cF L k w=0)\/∃ a∈pW L k ws,∃ b∈nW L k ws,w=jF L k a b:=fun w hw=>by
  rcases zey.mp hw with h|h
  ·obtain⟨h1,h2⟩:=zdx.mp h;exact .inl ⟨h1,by simpa using h2⟩
  ·obtain⟨a,ha,h⟩:=List.mem_flatMap.mp h;obtain⟨b,hb,rfl⟩:=zca.mp h;exact .inr ⟨a,ha,b,hb,rfl⟩
 refine⟨FM.gen_step S.gen (fun w hw=>?_) (fun w hw z=>⟨w,zdy _ (zdx.mpr ⟨hw,by simpa[cF] using z⟩),fun _ h=>h⟩) fun a ha b hb pa pb=>?_,fun w hw x hx=>?_⟩
 ·rcases mem w hw with ⟨h1,h2⟩|⟨a,ha,b,hb,rfl⟩
  ·exact (S.gen.all w h1).more h2
  ·exact (jwf hL hl hk S ha hb).1
 ·have ha':a∈pW L k ws:=zdx.mpr ⟨ha,decide_eq_true pa⟩;have hb':b∈nW L k ws:=zdx.mpr ⟨hb,decide_eq_true pb⟩;exact⟨jF L k a b,zcz _ (List.mem_flatMap.mpr ⟨a,ha',zca.mpr ⟨b,hb',rfl⟩⟩),(jwf hL hl hk S ha' hb').2.1⟩
 ·rcases mem w hw with ⟨h1,h2⟩|⟨a,ha,b,hb,rfl⟩
  ·exact (S.bt w h1 x hx).mono (by omega)
  ·exact (jwf hL hl hk S ha hb).2.2 x hx
theorem jzs{m':Nat}(hL:∀ q∈L,IqOk A u q)(hl:L.length<=10)(hk:k<u)(S:StOk L k B m ws)(hm:4*m+m*m<=4*m'+3):StOk L (k+1) (A+B+4+B+1) m' (jn8 L u k ws):=by
 obtain⟨g,bt⟩:=jqp hL hl hk S;have sub:∀ w∈jn8 L u k ws,w∈jdc L k ws:=fun w hw=>by
  obtain⟨r,hr,rfl⟩:=zca.mp hw;obtain⟨w,hw2,rfl⟩:=zca.mp (jn7 hr);exact hw2
 refine⟨FM.gen_needed g sub fun w hw=>?_,fun w hw=>bt w (sub w hw),?_⟩
 ·obtain⟨c,hc,hs⟩:=jub (List.mem_map_of_mem (f:=toR L u) hw);exact⟨c.2,List.mem_map_of_mem hc,hs⟩
 ·have h1:=jnv (L:=L) (k:=k) ws S.len;have h2:=jn6 ((jdc L k ws).map (toR L u));rw[zav] at h2;unfold jn8;rw[zav];omega
def s7t(L:List Iq)(u k:Nat)(ws fs:List (List Int))(a b c:Option D):DSt:=[some (.lst (L.map iq)),some (.lst (ws.map (rowD L u))),some (.int k),some (.lst (fs.map (rowD L u))),a,b,c]
theorem rowD0(w:List Int):gIx (rowD L u w) (.int 0)=some (iq (wIq L u w)):=row0 _
theorem jB4(hL:∀ q∈L,IqOk A u q)(hl:L.length<=10)(hk:k<u){w:List Int}(hw:∀ x∈w,Bt B x):L2.atI ((wIq L u w).cs.map D.int) (k:Int)=some (.int (cF L k w)):=by
 rw[jmk (jrh hL hw hl) hk,jk6 hk];rfl
theorem jEi(hL:∀ q∈L,IqOk A u q)(hl:L.length<=10)(hu:u<=3)(hk:k<u)(S:StOk L k B m ws)(hB:A+B+4+B+1<=6000){a b:List Int}(ha:a∈pW L k ws)(hb:b∈nW L k ws){fs:List (List Int)}(hf:fs.length<=90000)(c:Option D) :
  ∃ c',jed (s7t L u k ws fs (some (rowD L u a)) (some (rowD L u b)) c)=some (.ok (.nx (s7t L u k ws (fs++[jF L k a b]) (some (rowD L u a)) (some (rowD L u b)) c'))):=by
 obtain⟨a1,a2⟩:=zdx.mp ha;obtain⟨b1,b2⟩:=zdx.mp hb;have pa:0<cF L k a:=by simpa using a2
 have pb:cF L k b<0:=by simpa using b2
 have ca:=S.gen.all a a1;have cb:=S.gen.all b b1;have qa:=jrh hL (S.bt a a1) hl;have qb:=jrh hL (S.bt b b1) hl;have ga:(wIq L u a).cs.getD k 0=cF L k a:=jk6 hk;have gb:(wIq L u b).cs.getD k 0=cF L k b:=jk6 hk;obtain⟨j1,j2,j3⟩:=jwf hL hl hk S ha hb;have hv:=FM.joined_in ca cb pa pb;have ej:=jts (C:=A+B+4) (B:=B) (u:=u) (k:=k) (q1:=wIq L u a) (q2:=wIq L u b) (a:=a) (b:=b) qa qb hk (fun x hx=>⟨ca.nn x hx,S.bt a a1 x hx⟩) (fun x hx=>⟨cb.nn x hx,S.bt b b1 x hx⟩) (by omega) (by rw[ga];exact pa) (by rw[gb];exact pb) (by rw[ca.len];omega) (by
  rw[ga,gb];obtain⟨i,hi⟩:=hv.ne;rw[zbx] at hi
  cases e:(lin2 (-dt (col L k) b) a (dt (col L k) a) b)[i]? with
  | none=>rw[e] at hi;simp at hi
  | some x=>rw[e] at hi;exact⟨x,zdv e,by simp at hi;omega⟩)
 rw[ga,gb] at ej;have ew:=jp5 (A:=A) (B:=A+B+4+B+1) (qs:=L) (ws:=jF L k a b) (u:=u) hu hL j3 hl (by omega) (by omega);refine⟨some (.lst ((jF L k a b).map .int)),?_⟩;unfold jed;rw[ja5 (Y':=s7t L u k ws fs (some (rowD L u a)) (some (rowD L u b)) (some (.lst ((jF L k a b).map .int)))) (by
  unfold s7t;show gSet 6 (ja2 jgw _) _=_;simp only[stp];have:jgw [rowD L u a,rowD L u b,.int k]=some (.ok (.lst ((jF L k a b).map .int))):=ej;rw[this];rfl)]
 have hlen:((wIq L u a).cs.map D.int).length=u:=by rw[zav];exact qa.len
 rw[jm8 (d:=rowD L u (jF L k a b)) (ds:=fs.map (rowD L u)) 3 (by
  unfold s7t;simp only[stp,rowD0,iq0,hlen,ew];rfl) rfl (by rw[zav];omega)]
 unfold s7t;rw[List.map_append];rfl
theorem jx6(hL:∀ q∈L,IqOk A u q)(hl:L.length<=10)(hu:u<=3)(hk:k<u)(S:StOk L k B m ws)(hB:A+B+4+B+1<=6000){a:List Int}(ha:a∈pW L k ws):∀ (bs:List (List Int)) (fs:List (List Int)) (b c:Option D),(∀ b∈bs,b∈nW L k ws)->fs.length+bs.length<=80000 ->
  ∃ b' c',forD jed (DL.gName 5) (bs.map (rowD L u)) (s7t L u k ws fs (some (rowD L u a)) b c)=some (.ok (.nx (s7t L u k ws (fs++bs.map fun b=>jF L k a b) (some (rowD L u a)) b' c')))
 | [],fs,b,c,_,_=>⟨b,c,by rw[List.map_nil,List.map_nil,List.append_nil];rfl⟩
 | b::bs,fs,b0,c,h,hf=>by
  rw[List.length_cons] at hf;obtain⟨c1,e1⟩:=jEi hL hl hu hk S hB ha (h b zaa) (fs:=fs) (by omega) c;obtain⟨b',c',ih⟩:=jx6 hL hl hu hk S hB ha bs (fs++[jF L k a b]) (some (rowD L u b)) c1 (fun z hz=>h z (zaw _ hz)) (by rw[zdb];simp;omega);refine⟨b',c',?_⟩;rw[List.map_cons,jcv (d:=rowD L u b) (Y1:=s7t L u k ws fs (some (rowD L u a)) (some (rowD L u b)) c) rfl e1,ih,List.append_assoc];rfl
theorem jAw{c:Int->Bool}{g:D->D->Option D}(hg:∀ i:Int,g (.int i) (.int 0)=some (.bl (c i)))(hL:∀ q∈L,IqOk A u q)(hl:L.length<=10)(hk:k<u){w:List Int}(hw:∀ x∈w,Bt B x) :
  DL.t2 g (f2 gIx (f2 gIx (f2 gIx (fVar 0) (fC (.int 0))) (fC (.int 0))) (fVar 1)) (fC (.int 0)) (some (rowD L u w)::[some (.int k)])=some (.ok (c (cF L k w))):=by
 simp only[stp,rowD0,iq0,jB4 hL hl hk hw,hg];rfl
theorem jxe(hL:∀ q∈L,IqOk A u q)(hl:L.length<=10)(hu:u<=3)(hk:k<u)(S:StOk L k B m ws)(hB:A+B+4+B+1<=6000)(hm:4*m+m*m<=120000)(Ω:Sto) :
  ∃ G,jd4 [.lst (L.map iq),.lst (ws.map (rowD L u)),.int k] Ω=some (.ok (.lst ((jn8 L u k ws).map (rowD L u))),Ω++G):=by
 have fl:=jnv (L:=L) (k:=k) ws S.len;have hwl:ws.length<=30000:=by have:=S.len;omega
 have c1:=jey (c:=[some (.int (k:Int))]) (tc:=DL.t2 gEq (f2 gIx (f2 gIx (f2 gIx (fVar 0) (fC (.int 0))) (fC (.int 0))) (fVar 1)) (fC (.int 0))) (fe:=ji3) (K:=rowD L u) (p:=fun w=>cF L k w == 0) ws none (fun w hw=>jAw (c:=fun i=>i == 0) (fun i=>rfl) hL hl hk (S.bt w hw)) (fun w hw=>rfl);have c2:=jey (c:=[some (.int (k:Int))]) (tc:=DL.t2 gGt (f2 gIx (f2 gIx (f2 gIx (fVar 0) (fC (.int 0))) (fC (.int 0))) (fVar 1)) (fC (.int 0))) (fe:=ji4) (K:=rowD L u) (p:=fun w=>decide (0<cF L k w)) ws none (fun w hw=>jAw (c:=fun i=>decide (0<i)) (fun i=>rfl) hL hl hk (S.bt w hw)) (fun w hw=>rfl);have c3:=jey (c:=[some (.int (k:Int))]) (tc:=DL.t2 gLt (f2 gIx (f2 gIx (f2 gIx (fVar 0) (fC (.int 0))) (fC (.int 0))) (fVar 1)) (fC (.int 0))) (fe:=ji5) (K:=rowD L u) (p:=fun w=>decide (cF L k w<0)) ws none (fun w hw=>jAw (c:=fun i=>decide (i<0)) (fun i=>rfl) hL hl hk (S.bt w hw)) (fun w hw=>rfl);have lz:(zW L k ws).length<=ws.length:=List.length_filter_le _ _;have lp:(pW L k ws).length<=ws.length:=List.length_filter_le _ _;have ln:(nW L k ws).length<=ws.length:=List.length_filter_le _ _;have lst1:∀ l:List (List Int),l.length<=ws.length->jbi (l.map (rowD L u))=some (.lst (l.map (rowD L u))):=fun l h=>jko (by rw[zav,sizeLine_eq];omega)
 have hfl:(jdc L k ws).length=(zW L k ws).length+(pW L k ws).length*(nW L k ws).length:=by
  unfold jdc;rw[zdb,List.length_flatMap];congr 1;rw[show (fun a=>((nW L k ws).map fun b=>jF L k a b).length)=fun _=>(nW L k ws).length from by funext a;rw[zav]];rw[List.map_const',List.sum_replicate_nat]
 have outer:∀ (as:List (List Int)) (fs:List (List Int)) (a b c:Option D),(∀ a∈as,a∈pW L k ws)->fs.length+as.length*(nW L k ws).length<=80000 ->
   ∃ a' b' c',forD jf3 (DL.gName 4) (as.map (rowD L u)) (s7t L u k ws fs a b c)=some (.ok (.nx (s7t L u k ws (fs++as.flatMap fun a=>(nW L k ws).map fun b=>jF L k a b) a' b' c'))):=by
  intro as
  induction as with
  | nil=>intro fs a b c _ _;exact⟨a,b,c,by rw[List.flatMap_nil,List.append_nil];rfl⟩
  | cons a as ih =>
   intro fs a0 b c h hf;rw[List.length_cons,Nat.succ_mul] at hf;obtain⟨b1,d1,e1⟩:=jx6 hL hl hu hk S hB (h a zaa) (nW L k ws) fs b c (fun _ z=>z) (by omega);obtain⟨a',b',c',e2⟩:=ih (fs++(nW L k ws).map fun b=>jF L k a b) (some (rowD L u a)) b1 d1 (fun z hz=>h z (zaw _ hz)) (by rw[zdb,zav];omega);refine⟨a',b',c',?_⟩;rw[List.map_cons,jcv (d:=rowD L u a) (Y1:=s7t L u k ws fs (some (rowD L u a)) b c) rfl (Y2:=s7t L u k ws (fs++(nW L k ws).map fun b=>jF L k a b) (some (rowD L u a)) b1 d1) (by
    unfold jf3;rw[jew (ds:=(nW L k ws).map (rowD L u)) (by
     unfold s7t;simp only[stp,c3];show M.b (M.o (jbi ((nW L k ws).map (rowD L u)))) _=_;rw[lst1 _ ln];rfl)]
    exact e1),e2,List.append_assoc]
   rfl
 obtain⟨a',b',c',eo⟩:=outer (pW L k ws) (zW L k ws) none none none (fun _ z=>z) (by omega);have rl:∀ r∈(jdc L k ws).map (toR L u),r.2.length<=1000:=fun r hr=>by
  obtain⟨w,hw,rfl⟩:=zca.mp hr;have:=((jqp hL hl hk S).1.all w hw).len;show w.length<=1000;omega
 obtain⟨G,en⟩:=juc rl (by rw[zav];omega) Ω;have er:((jdc L k ws).map (toR L u)).map rowP=(jdc L k ws).map (rowD L u):=by rw[List.map_map];rfl
 rw[er,jud] at en;refine⟨G,?_⟩;unfold jd4;rw[jyf];refine (v_b (a:=.rt (.lst ((jn8 L u k ws).map (rowD L u)))) (Ω1:=Ω++G) ?_).trans rfl;show jfg [some (.lst (L.map iq)),some (.lst (ws.map (rowD L u))),some (.int k),none,none,none,none] Ω=_;unfold jfg;rw[jea (Y':=s7t L u k ws (zW L k ws) none none none) (Ω':=Ω) (u_l (by
  simp only[stp,c1];show M.b (M.o (jbi ((zW L k ws).map (rowD L u)))) _=_;rw[lst1 _ lz];rfl))]
 rw[jea (Y':=s7t L u k ws (jdc L k ws) a' b' c') (Ω':=Ω) (u_l (by
  rw[jew (ds:=(pW L k ws).map (rowD L u)) (by
   unfold s7t;simp only[stp,c2];show M.b (M.o (jbi ((pW L k ws).map (rowD L u)))) _=_;rw[lst1 _ lp];rfl)]
  exact eo))]
 refine jEs ?_;rw[jl5 (ds:=[.lst ((jdc L k ws).map (rowD L u))]) (Ω1:=Ω) (u_l rfl)];exact en
end
end
open FM (Fr dt col rests strict lin2 unit InC Gen Sup bot ml tp tops Good en btw fle)
section
def stW(L:List Iq)(u:Nat):Nat->List (List Int)
 | 0=>(List.range L.length).map (unit L.length)
 | k+1=>jn8 L u k (stW L u k)
noncomputable def bB:Nat->Nat
 | 0=>1
 | k+1=>112+bB k+4+bB k+1
noncomputable def mB:Nat->Nat
 | 0=>10
 | 1=>35
 | 2=>341
 | _=>29411
theorem jxa{L:List Iq}{u:Nat}(hL:∀ q∈L,IqOk 112 u q)(hl:L.length<=10)(hu:u<=3):∀ k,k<=u->StOk L k (bB k) (mB k) (stW L u k)
 | 0,_=>⟨FM.gen_first,fun w hw x hx=>by
   obtain⟨i,hi,rfl⟩:=zca.mp hw;unfold FM.unit at hx;rcases List.mem_or_eq_of_mem_set hx with h|h
   ·rw[(List.mem_replicate.mp h).2];unfold Bt bB;decide
   ·rw[h];unfold Bt bB;decide,by unfold stW mB;simpa using hl⟩
 | k+1,h=>by
  have S:=jxa hL hl hu k (by omega);refine jzs (A:=112) hL hl (by omega) S ?_;have:k=0\/k=1\/k=2:=by omega
  rcases this with rfl|rfl|rfl<;>decide
theorem jyl{k:Nat}(h:k<=3):bB k<=827/\(k<=2->bB k<=355):=by
 have:k=0\/k=1\/k=2\/k=3:=by omega
 rcases this with rfl|rfl|rfl|rfl<;>decide
theorem jCu{k:Nat}(h:k<=3):mB k<=29411/\(k<=2->4*mB k+mB k*mB k<=120000):=by
 have:k=0\/k=1\/k=2\/k=3:=by omega
 rcases this with rfl|rfl|rfl|rfl<;>decide
def stD(L:List Iq)(u k:Nat):List D:=(List.range (k+1)).map fun i=>.lst ((stW L u i).map (rowD L u))
theorem jp2{L:List Iq}{u k i:Nat}(h:i<=k):gIx (.lst (stD L u k)) (.int i)=some (.lst ((stW L u i).map (rowD L u))):=by
 rw[ix_l];refine DL.atI_get ?_;unfold stD;rw[zbb,List.getElem?_range (by omega)];rfl
theorem jw9(L:List Iq)(u k:Nat):stD L u (k+1)=stD L u k++[.lst ((stW L u (k+1)).map (rowD L u))]:=by
 unfold stD;rw[List.range_succ (n:=k+1),List.map_append];rfl
theorem jl2(j:Int)(m:Nat):jap j (m+1)=.int j::jap (j+1) m:=by
 unfold jap;rw[List.range_succ_eq_map,List.map_cons,List.map_map];refine congr (congrArg _ (by simp)) (List.map_congr_left fun i _=>?_);show D.int (j+((i+1:Nat):Int))=D.int (j+1+(i:Int));congr 1;omega
section
variable {L:List Iq}{u:Nat}
theorem jx9(hL:∀ q∈L,IqOk 112 u q)(hl:L.length<=10)(hu:u<=3):∀ (m j:Nat) (e:Option D) (Ω:Sto),j+m=u ->
  ∃ e' G,forE jjy (DL.gName 3) (jap j m) [some (.lst (L.map iq)),some (.int u),some (.lst (stD L u j)),e,none,none] Ω=some (.ok (.nx [some (.lst (L.map iq)),some (.int u),some (.lst (stD L u u)),e',none,none]),Ω++G)
 | 0,j,e,Ω,h=>by
  have:j=u:=by omega
  subst this;exact⟨e,[],by rw[List.append_nil];rfl⟩
 | m+1,j,e,Ω,h=>by
  have S:=jxa hL hl hu j (by omega);have b1:=(jyl (k:=j) (by omega)).2 (by omega);have b2:=(jCu (k:=j) (by omega)).2 (by omega);obtain⟨G1,e1⟩:=jxe (A:=112) hL hl hu (by omega) S (by omega) b2 Ω;obtain⟨e',G2,ih⟩:=jx9 hL hl hu m (j+1) (some (.int j)) (Ω++G1) (by omega);refine⟨e',G1++G2,?_⟩;rw[jl2,jh9 (Y1:=[some (.lst (L.map iq)),some (.int u),some (.lst (stD L u j)),some (.int j),none,none]) rfl (Y2:=[some (.lst (L.map iq)),some (.int u),some (.lst (stD L u (j+1))),some (.int j),none,none]) (Ω1:=Ω++G1) (by
   unfold jjy eApp;have ea:jid jd4 (lF (jac (fVar 0) (jac (f2 gIx (fVar 2) (fVar 3)) (jac (fVar 3) fNil)))) [some (.lst (L.map iq)),some (.int u),some (.lst (stD L u j)),some (.int j),none,none] Ω=some (.ok (.lst ((stW L u (j+1)).map (rowD L u))),Ω++G1):=by
    rw[jl5 (ds:=[.lst (L.map iq),.lst ((stW L u j).map (rowD L u)),.int j]) (Ω1:=Ω) (u_l (by simp only[stp,jp2 (zac j)];rfl))];exact e1
   rw[v_b ea];show (if (stD L u j).length<sizeLine then MS.p (Out.nx _) else fun _=>none) _=_;rw[if_pos (by unfold stD;rw[zav,List.length_range,sizeLine_eq];omega),jw9];rfl)]
  rw[<- List.append_assoc];exact ih
theorem tp_w{w:List Int}:∀ (ps:List Fr) (k:Nat),k+ps.length<=u->tp ((wIq L u w).cs.drop k) (wIq L u w).r ps=dt (tops L k ps) w
 | [],k,_=>by rw[FM.tp_nil,FM.tops_end];rfl
 | (a,b)::ps,k,h=>by
  rw[List.length_cons] at h;rw[FM.tp_cons,FM.tops_cons,tp_w ps (k+1) (by omega),jk6 (by omega)]
noncomputable def sB(S:Nat):Nat:=2*(480+S+2)+2
theorem jBb{k:Nat}{low high:Option Fr}(hk:1<=k)(hl:∀ l,low=some l->FrOk k l)(hh:∀ h,high=some h->FrOk k h):Bt (2*k+2) (btw low high).1/\Bt (2*k+2) (btw low high).2:=by
 have one:Bt (2*k+2) (1:Int):=jnk (by omega)
 cases low with
 | none =>
  cases high with
  | none=>exact⟨by show Bt _ (0:Int);unfold Bt;exact Nat.two_pow_pos _,one⟩
  | some h =>
   have H:=hh h rfl;refine⟨?_,one⟩;show Bt _ ((h.1-1).fdiv h.2);rw[Int.fdiv_eq_ediv_of_nonneg _ (zcc H.p)];exact (js6 (H.a.sub (jnk hk)) H.p).mono (by omega)
 | some l =>
  have A:=hl l rfl;have up:Bt (2*k+2) (l.1.fdiv l.2+1):=by
   rw[Int.fdiv_eq_ediv_of_nonneg _ (zcc A.p)];exact ((js6 A.a A.p).add (jnk hk)).mono (by omega)
  cases high with
  | none=>exact⟨up,one⟩
  | some h =>
   have H:=hh h rfl;unfold FM.btw;simp only
   split
   ·exact⟨up,one⟩
   ·have pb:=zcw (zcw (show (0:Int)<2 by decide) A.p) H.p;refine jB1 (by omega) ((Bt.add (a:=k+k) (A.a.mul H.b) (H.a.mul A.b)).mono (by omega)) ?_;exact (((Bt.mul (a:=2) (by unfold Bt;decide) A.b).mul H.b)).mono (by omega)
def qsW(L:List Iq)(u j:Nat):List Iq:=((stW L u j).map (toR L u)).map fun r=>r.1
def xF(L:List Iq)(u j:Nat)(ps:List Fr):Fr:=btw (lowO j ps (qsW L u j)) (jtj j ps (qsW L u j))
theorem x_ok(hL:∀ q∈L,IqOk 112 u q)(hl:L.length<=10)(hu:u<=3){j S:Nat}{ps:List Fr}(hj:j+1+ps.length=u)(hP:PtOk ps S)(hS:S<=3900)(Gd:Good L (j+1) ps) :
  jb3 [.lst ((stW L u j).map (rowD L u)),.int j,.lst (ps.map pt)]=some (.ok (pt (xF L u j ps)))/\FrOk (sB S) (xF L u j ps)/\Int.gcd (xF L u j ps).1 (xF L u j ps).2=1/\Good L j (xF L u j ps::ps):=by
 have S0:=jxa hL hl hu j (by omega);have b1:=(jyl (k:=j) (by omega)).2 (by omega);have b2:=(jCu (k:=j) (by omega)).1;have hq:∀ w∈stW L u j,IqOk 480 u (wIq L u w):=fun w hw=>(jrh hL (S0.bt w hw) hl).mono (by omega)
 have hr:∀ r∈(stW L u j).map (toR L u),IqOk 480 u r.1:=fun r hr=>by obtain⟨w,hw,rfl⟩:=zca.mp hr;exact hq w hw
 have hrl:((stW L u j).map (toR L u)).length<=100000:=by rw[zav];have:=S0.len;omega
 have e1:=jue (C:=480) hu hj hP hS (by omega) (by omega) hr hrl;have er:((stW L u j).map (toR L u)).map rowP=(stW L u j).map (rowD L u):=by rw[List.map_map];rfl
 rw[er] at e1;have hq':∀ q∈qsW L u j,IqOk 480 u q:=fun q h=>by obtain⟨r,h2,rfl⟩:=zca.mp h;exact hr r h2
 have hf:∀ q∈qsW L u j,q.cs.getD j 0≠0->FrOk (480+S+2) (bdF j ps q):=fun q h z=>(jrn (hq' q h) hu hj hP hS (by omega) (by omega) z).2.1
 obtain⟨l1,l2,_,l4⟩:=jy3 (k:=480+S+2) (qsW L u j) none ⟨fun _ z=>nomatch z⟩ hf;obtain⟨h1,h2,_,h4⟩:=jy2 (k:=480+S+2) (qsW L u j) none ⟨fun _ z=>nomatch z⟩ hf;have mem:∀ w∈stW L u j,wIq L u w∈qsW L u j:=fun w hw=>zca.mpr ⟨toR L u w,List.mem_map_of_mem hw,rfl⟩
 have back:∀ q∈qsW L u j,∃ w∈stW L u j,q=wIq L u w:=fun q h=>by
  obtain⟨r,h2,rfl⟩:=zca.mp h;obtain⟨w,hw,rfl⟩:=zca.mp h2;exact⟨w,hw,rfl⟩
 have cg:∀ w,(wIq L u w).cs.getD j 0=dt (col L j) w:=fun w=>jk6 (by omega)
 have bd:∀ w∈stW L u j,dt (col L j) w≠0->FM.Bd (bdF j ps (wIq L u w)) (bot ps) (dt (col L j) w) (dt (tops L (j+1) ps) w):=fun w hw z=>by
  have:=(jrn (hq w hw) hu hj hP hS (by omega) (by omega) (by rw[cg];exact z)).2.2;rw[cg,tp_w ps (j+1) (by omega)] at this;exact this
 have Bs:FM.Bounds (stW L u j) (col L j) (tops L (j+1) ps) (bot ps) (lowO j ps (qsW L u j)) (jtj j ps (qsW L u j)):=by
  refine⟨fun w hw p=>?_,fun w hw p=>?_,fun l el=>?_,fun h eh=>?_⟩
  ·obtain⟨l,e,q⟩:=l2 _ (mem w hw) (by rw[cg];exact p);exact⟨l,_,e,bd w hw (by omega),q⟩
  ·obtain⟨l,e,q⟩:=h2 _ (mem w hw) (by rw[cg];exact p);exact⟨l,_,e,bd w hw (by omega),q⟩
  ·rcases l4 l el with z|⟨q,hq,p,rfl⟩
   ·cases z
   ·obtain⟨w,hw,rfl⟩:=back q hq;rw[cg] at p;exact⟨w,hw,p,bd w hw (by omega)⟩
  ·rcases h4 h eh with z|⟨q,hq,p,rfl⟩
   ·cases z
   ·obtain⟨w,hw,rfl⟩:=back q hq;rw[cg] at p;exact⟨w,hw,p,bd w hw (by omega)⟩
 have pB:=hP.bot.2.1;obtain⟨X,gc⟩:=FM.btw_ok (low:=lowO j ps (qsW L u j)) (high:=jtj j ps (qsW L u j)) (fun l e=>(l1.ok l e).p) (fun h e=>(h1.ok h e).p) (FM.low_high S0.gen pB Gd Bs);obtain⟨z1,z2⟩:=jBb (k:=480+S+2) (by omega) l1.ok h1.ok;exact⟨e1,⟨z1,z2,X.pos⟩,gc,FM.good_step S0.gen pB Gd Bs X⟩
end
end
open FM (Fr dt col rests strict lin2 unit InC Gen Sup bot ml tp tops Good en btw fle)
section
theorem jtc(t:Int)(s:Bool):jd2 [.int t,.bl s]=some (.ok (.bl (if s then decide (0<t) else decide (0<=t)))):=by
 unfold jd2;rw[jd0];unfold jhm;cases s<;>(simp only[stp];rfl)
noncomputable def enB(t:Int)(s:Bool):Bool:=if s then decide (0<t) else decide (0<=t)
theorem enB_iff{t:Int}{s:Bool}:enB t s=true↔en t s:=by
 unfold enB FM.en;cases s<;>simp
noncomputable def js9:Nat->List D
 | 0=>[]
 | j+1=>.int j::js9 j
theorem jyv{u:Nat}(hu:u<=3):je5 [.int ((u:Int)-1),.int (-1),.int (-1)]=some (js9 u):=by
 have:u=0\/u=1\/u=2\/u=3:=by omega
 rcases this with rfl|rfl|rfl|rfl<;>(unfold je5;dsimp only;rw[if_pos (by decide)];rfl)
def SB:Nat->Nat
 | 0=>1
 | m+1=>sB (SB m)+SB m
theorem jE5{m:Nat}(h:m<=2):SB m<=3900/\sB (SB m)<=8800:=by
 have:m=0\/m=1\/m=2:=by omega
 rcases this with rfl|rfl|rfl<;>decide
structure PtsOk(L:List Iq)(j u:Nat)(ps:List Fr):Prop where
 len:j+ps.length=u
 pt:PtOk ps (SB ps.length)
 fr:∀ p∈ps,FrOk 8800 p/\Int.gcd p.1 p.2=1
 good:Good L j ps
section
variable {L:List Iq}{u:Nat}
theorem jAa(p:Fr):jrt (pt p)=true:=rfl
theorem jx8(hL:∀ q∈L,IqOk 112 u q)(hl:L.length<=10)(hu:u<=3):∀ (j:Nat) (ps:List Fr) (e:Option D),PtsOk L j u ps ->
  ∃ ps' e',PtsOk L 0 u ps'/\forD jhf (DL.gName 3) (js9 j) [some (.lst (stD L u u)),some (.int u),some (.lst (ps.map pt)),e]=some (.ok (.nx [some (.lst (stD L u u)),some (.int u),some (.lst (ps'.map pt)),e']))
 | 0,ps,e,h=>⟨ps,e,h,rfl⟩
 | j+1,ps,e,h=>by
  have hm:ps.length<=2:=by have:=h.len;omega
  obtain⟨s1,s2⟩:=jE5 hm;obtain⟨e1,f1,g1,g2⟩:=x_ok hL hl hu (j:=j) (by have:=h.len;omega) h.pt s1 h.good;obtain⟨ps',e',h',ih⟩:=jx8 hL hl hu j (xF L u j ps::ps) (some (.int j)) ⟨by have:=h.len;rw[List.length_cons];omega,PtOk.cons f1 h.pt,fun p hp=>by
   rcases List.mem_cons.mp hp with rfl|hp
   ·exact⟨⟨f1.a.mono s2,f1.b.mono s2,f1.p⟩,g1⟩
   ·exact h.fr p hp,g2⟩
  refine⟨ps',e',h',?_⟩;show forD _ _ (.int (j:Int)::js9 j) _=_;rw[jcv (Y1:=[some (.lst (stD L u u)),some (.int u),some (.lst (ps.map pt)),some (.int j)]) rfl (Y2:=[some (.lst (stD L u u)),some (.int u),some (.lst ((xF L u j ps::ps).map pt)),some (.int j)]) (by
   unfold jhf gIns;have en:jv9 (ja2 jb3 (jac (f2 gIx (fVar 0) (fVar 3)) (jac (fVar 3) (jac (fVar 2) fNil)))) [some (.lst (stD L u u)),some (.int u),some (.lst (ps.map pt)),some (.int j)]=some (.ok (pt (xF L u j ps))):=by
    unfold jv9;have e0:ja2 jb3 (jac (f2 gIx (fVar 0) (fVar 3)) (jac (fVar 3) (jac (fVar 2) fNil))) [some (.lst (stD L u u)),some (.int u),some (.lst (ps.map pt)),some (.int j)]=some (.ok (pt (xF L u j ps))):=by
     simp only[stp,jp2 (show j<=u by have:=h.len;omega),e1]
    rw[e0,M.b_ok,if_pos (jAa _)];rfl
   rw[en,M.b_ok];show (if (ps.map pt).length<sizeLine then M.p (Out.nx _) else none)=_;rw[if_pos (by rw[zav,sizeLine_eq];omega)];rfl)]
  exact ih
theorem jw1(hL:∀ q∈L,IqOk 112 u q)(hl:L.length<=10)(hu:u<=3)(Gd:Good L u []):∃ ps,PtsOk L 0 u ps/\je4 [.lst (stD L u u),.int u]=some (.ok (.lst (ps.map pt))):=by
 obtain⟨ps,e',h,el⟩:=jx8 hL hl hu u [] none ⟨rfl,.nil,(fun p hp=>nomatch hp),Gd⟩;refine⟨ps,h,?_⟩;unfold je4;rw[jd0];show (jgs [some (.lst (stD L u u)),some (.int u),none,none]).b outD=_;unfold jgs;rw[ja5 (Y':=[some (.lst (stD L u u)),some (.int u),some (.lst []),none]) (by simp only[stp];rfl)];rw[ja5 (show gFor _ _ _ _=some (.ok (.nx _)) from by rw[jew (ds:=js9 u) (by simp only[stp,jyv hu];rfl)];exact el)];rfl
theorem jx4(A B C E:Option D):∀ (ws:List (List Int)) (f g:Option D),(∃ w∈ws,enB (dt (rests L) w) (strict L w)=false/\forD jdw (jcq 4 5) (ws.map (rowD L u)) [A,B,C,E,f,g]=some (.ok (.rt (.tup [.str "weights",.lst (w.map .int)])))) \/
  ((∀ w∈ws,enB (dt (rests L) w) (strict L w)=true)/\∃ f' g',forD jdw (jcq 4 5) (ws.map (rowD L u)) [A,B,C,E,f,g]=some (.ok (.nx [A,B,C,E,f',g'])))
 | [],f,g=>.inr ⟨(fun w hw=>nomatch hw),f,g,rfl⟩
 | w::ws,f,g=>by
  have t0:DL.tNot (tTru (ja2 jd2 (jac (f2 gIx (fVar 4) (fC (.int 1))) (jac (f2 gIx (fVar 4) (fC (.int 2))) fNil)))) [A,B,C,E,some (iq (wIq L u w)),some (.lst (w.map .int))]=some (.ok (!(enB (dt (rests L) w) (strict L w)))):=by
   simp only[stp,iq1,iq2,jtc];rfl
  rw[List.map_cons]
  cases c:enB (dt (rests L) w) (strict L w) with
  | false =>
   refine .inl ⟨w,zaa,c,?_⟩;refine jB0 (Y1:=[A,B,C,E,some (iq (wIq L u w)),some (.lst (w.map .int))]) rfl ?_;unfold jdw;rw[w_if t0,c];rfl
  | true =>
   have e1:jdw [A,B,C,E,some (iq (wIq L u w)),some (.lst (w.map .int))]=some (.ok (.nx [A,B,C,E,some (iq (wIq L u w)),some (.lst (w.map .int))])):=by
    unfold jdw;rw[w_if t0,c];rfl
   rw[jcv (d:=rowD L u w) (Y1:=[A,B,C,E,some (iq (wIq L u w)),some (.lst (w.map .int))]) rfl e1];rcases jx4 A B C E ws (some (iq (wIq L u w))) (some (.lst (w.map .int))) with ⟨z,h1,h2,h3⟩|⟨h1,h2⟩
   ·exact .inl ⟨z,zaw _ h1,h2,h3⟩
   ·exact .inr ⟨fun z hz=>by
     rcases List.mem_cons.mp hz with rfl|hz
     ·exact c
     ·exact h1 z hz,h2⟩
structure NoneW(L:List Iq)(u:Nat)(w:List Int):Prop where
 len:w.length=L.length
 nn:∀ x∈w,0<=x
 bt:∀ x∈w,Bt 900 x
 z:∀ j<u,dt (col L j) w=0
 no:¬ en (dt (rests L) w) (strict L w)
structure AllP(L:List Iq)(u:Nat)(ps:List Fr):Prop where
 len:ps.length=u
 fr:∀ p∈ps,FrOk 8800 p/\Int.gcd p.1 p.2=1
 b:0<bot ps
 all:∀ q∈L,en (tp q.cs q.r ps) q.s
inductive Ans(L:List Iq)(u:Nat):D->Prop
 | point (ps:List Fr) (h:AllP L u ps):Ans L u (.tup [.str "point",.lst (ps.map pt)])
 | weights (w:List Int) (h:NoneW L u w):Ans L u (.tup [.str "weights",.lst (w.map .int)])
theorem ju7(hL:∀ q∈L,IqOk 112 u q)(hl:L.length<=10)(hu:u<=3)(Ω:Sto):∃ d G,Ans L u d/\jih [.lst (L.map iq),.int u] Ω=some (.ok d,Ω++G):=by
 have e1:=jwa (u:=u) (fun q hq=>(hL q hq).len) hl;obtain⟨e',G,el⟩:=jx9 hL hl hu u 0 none Ω (by omega);have Su:=jxa hL hl hu u (zac u);have start:∀ d,(∃ r,jgt [some (.lst (L.map iq)),some (.int u),none,none,none,none] Ω=some (.ok r,Ω++G)/\outE r=MS.p d)->jih [.lst (L.map iq),.int u] Ω=some (.ok d,Ω++G):=fun d ⟨r,h,h2⟩=>by
  unfold jih;rw[jEc];show ((jgt [some (.lst (L.map iq)),some (.int u),none,none,none,none]).b outE) Ω=_;rw[v_b h,h2];rfl
 have pre:∀ r,eSeq (lF (gFor (jcr (f2 gIx (fVar 2) (fVar 1))) (jcq 4 5) jdw)) (lF (gRet (fL jcy (jac (fC (.str "point")) (jac (ja2 je4 (jac (fVar 2) (jac (fVar 1) fNil))) fNil))))) [some (.lst (L.map iq)),some (.int u),some (.lst (stD L u u)),e',none,none] (Ω++G)=r->jgt [some (.lst (L.map iq)),some (.int u),none,none,none,none] Ω=r:=fun r h=>by
  unfold jgt;rw[jea (Y':=[some (.lst (L.map iq)),some (.int u),some (.lst (stD L u 0)),none,none,none]) (Ω':=Ω) (u_l (by simp only[stp,e1];rfl))];rw[jea (show eFor _ _ _ _ _=some (.ok (.nx _),_) from by rw[jxg (ds:=jap 0 u) (u_l (by simp only[stp];rfl))];exact el)];exact h
 have fi:jcr (f2 gIx (fVar 2) (fVar 1)) [some (.lst (L.map iq)),some (.int u),some (.lst (stD L u u)),e',none,none]=some (.ok ((stW L u u).map (rowD L u))):=by
  simp only[stp,jp2 (zac u)];rfl
 rcases jx4 (L:=L) (u:=u) (some (.lst (L.map iq))) (some (.int u)) (some (.lst (stD L u u))) e' (stW L u u) none none with ⟨w,hw,c,ef⟩|⟨c,f',g',ef⟩
 ·have cw:=Su.gen.all w hw;refine⟨_,G,.weights w ⟨cw.len,cw.nn,fun x hx=>(Su.bt w hw x hx).mono (by have:=(jyl (k:=u) hu).1;omega),cw.z,fun z=>?_⟩,start _ ⟨_,pre _ (u_rt (u_l (by rw[jew fi];exact ef))),rfl⟩⟩;rw[enB_iff.mpr z] at c;cases c
 ·have Gd:Good L u []:=FM.good_end Su.gen fun w hw=>enB_iff.mp (c w hw)
  obtain⟨ps,P,ep⟩:=jw1 hL hl hu Gd;refine⟨_,G,.point ps ⟨by have:=P.len;omega,P.fr,P.pt.bot.2.1,FM.good_all P.good⟩,start _ ⟨.rt (.tup [.str "point",.lst (ps.map pt)]),pre _ ?_,rfl⟩⟩;rw[jea (Y':=[some (.lst (L.map iq)),some (.int u),some (.lst (stD L u u)),e',f',g']) (Ω':=Ω++G) (u_l (by rw[jew fi];exact ef))];refine u_l (jjn ?_);simp only[stp,ep];rfl
end
end
open FM (Fr dt col rests strict lin2 unit InC Gen Sup bot ml tp tops Good en btw fle)
section
theorem jCr{A B:Nat}(X Yq:Option D):∀ (xs:List (Int×Fr)) (k:Nat) (t:Int×Int) (e f:Option D),(∀ x∈xs,VOk A B x)->Bt k t.1->Bt k t.2->k+(A+B+1)*xs.length<=90000->A<=90000->B<=90000 ->
  ∃ e' f',forD jfz (jcq 4 5) (xs.map vD) [X,Yq,some (.int t.1),some (.int t.2),e,f]=some (.ok (.nx [X,Yq,some (.int (xs.foldl jln t).1),some (.int (xs.foldl jln t).2),e',f']))
 | [],k,t,e,f,_,_,_,_,_,_=>⟨e,f,rfl⟩
 | x::xs,k,t,e,f,hx,h1,h2,hk,hA,hB=>by
  have v:=hx x zaa;obtain⟨b1,b2⟩:=jqa (k:=k) (t:=t) (x:=x) h1 h2 v;rw[List.length_cons,Nat.mul_succ] at hk;have hk':k+(A+B+1)+(A+B+1)*xs.length<=90000:=by omega
  obtain⟨e',f',ih⟩:=jCr X Yq xs (k+(A+B+1)) (jln t x) (some (.int x.1)) (some (pt x.2)) (fun y hy=>hx y (zaw _ hy)) b1 b2 hk' hA hB;refine⟨e',f',?_⟩;have m1:=ja6 h1 v.q (by omega) (by omega);have m2:=ja6 v.c v.p (by omega) (by omega);have m3:=ja6 (v.c.mul v.p) h2 (by omega) (by omega);have m4:=ja6 h2 v.q (by omega) (by omega);rw[List.map_cons,List.foldl_cons,jcv (d:=vD x) (Y1:=[X,Yq,some (.int t.1),some (.int t.2),some (.int x.1),some (pt x.2)]) rfl (by
   unfold jfz;simp only[stp,pt0,pt1,m1,m2,m3,m4];rfl)]
  exact ih
section
variable {L:List Iq}{u:Nat}{q:Iq}{ps:List Fr}
theorem jty(hq:IqOk 112 u q)(hu:u<=3)(hl:ps.length=u)(hp:∀ p∈ps,FrOk 8800 p):jb2 [iq q,.lst (ps.map pt)]=some (.ok (.bl (enB (tp q.cs q.r ps) q.s))):=by
 have hlen:q.cs.length=ps.length:=by rw[hq.len,hl]
 obtain⟨e',f',e⟩:=jCr (A:=112) (B:=8800) (some (iq q)) (some (.lst (ps.map pt))) (q.cs.zip ps) 112 (q.r,1) none none (fun x hx=>⟨hq.cs _ (zdz hx).1,(hp _ (zdz hx).2).a,(hp _ (zdz hx).2).b⟩) hq.r (jnk (by omega)) (by
  have:(q.cs.zip ps).length<=3:=by rw[List.length_zip];omega
  omega) (by omega) (by omega)
 rw[jpe q.cs ps q.r 1 hlen] at e;have et:(q.r*bot ps+1*dt q.cs (ml ps))=tp q.cs q.r ps:=by unfold FM.tp;rw[Int.one_mul]
 rw[et] at e;unfold jb2;rw[jd0];show (jff [some (iq q),some (.lst (ps.map pt)),none,none,none,none]).b outD=_;unfold jff;rw[ja5 (Y':=[some (iq q),some (.lst (ps.map pt)),some (.int q.r),none,none,none]) (by simp only[stp,iq1];rfl),ja5 (jfy 3 rfl)];rw[ja5 (show gFor _ _ _ _=some (.ok (.nx _)) from by rw[jew (ds:=(q.cs.zip ps).map vD) (by simp only[stp,iq0,jvh,jvg];rfl)];exact e)];generalize tp q.cs q.r ps=t;rw[jjn (d:=.bl (enB t q.s)) (by
  simp only[stp,iq2];unfold enB
  by_cases h1:0<t
  ·rw[decide_eq_true h1,decide_eq_true (show 0<=t by omega)];cases q.s<;>rfl
  ·rw[decide_eq_false h1,jGd]
   by_cases h2:t=0
   ·subst h2;cases q.s<;>rfl
   ·rw[beq_eq_false_iff_ne.mpr h2,decide_eq_false (show ¬ 0<=t by omega)];cases q.s<;>rfl)]
 rfl
theorem jxl(i:Int):jd3 [.int i]=some (.ok (.bl true)):=by
 unfold jd3;rw[jjc];unfold jhr;simp only[stp];rfl
noncomputable def s5(A B C:Option D)(x y:Int):DSt:=[A,B,C,some (.int x),some (.int y)]
theorem t_ip(A B C:Option D)(x y:Int):jb5 (s5 A B C x y)=some (.ok (!(y == 0))):=by
 unfold jb5 s5;simp only[stp];rfl
theorem b_ip(A B C:Option D)(x y:Int)(h:0<y):jb1 (s5 A B C x y)=some (.ok (.nx (s5 A B C y (x % y)))):=by
 unfold jb1;rw[jFl (x:=.int y) (y:=.int (x % y)) 3 4 (by unfold s5;simp only[stp,jba (i:=x) h])];rfl
theorem jB5(A B C:Option D):∀ (k m a b:Nat),b<2 ^ k->2*k+1<=m->jdm jb5 jb1 m (s5 A B C a b)=some (.ok (.nx (s5 A B C (Nat.gcd a b:Nat) 0)))
 | 0,m,a,b,hk,hm=>by
  obtain⟨m,rfl⟩:∃ n,m=n+1:=⟨m-1,by omega⟩
  have:b=0:=by simp at hk;omega
  subst this;rw[jsg (by rw[t_ip];rfl),Nat.gcd_zero_right];rfl
 | k+1,m,a,b,hk,hm=>by
  obtain⟨m,rfl⟩:∃ n,m=n+1:=⟨m-1,by omega⟩
  by_cases h0:b=0
  ·subst h0;rw[jsg (by rw[t_ip];rfl),Nat.gcd_zero_right];rfl
  ·have hb:(0:Int)<(b:Int):=by omega
   rw[w_go (by rw[t_ip,beq_eq_false_iff_ne.mpr (by omega)];rfl) (b_ip A B C a b hb)];obtain⟨m,rfl⟩:∃ n,m=n+1:=⟨m-1,by omega⟩
   have e1:((a:Int) % (b:Int))=((a % b:Nat):Int):=by omega
   have g1:Nat.gcd a b=Nat.gcd b (a % b):=by rw[Nat.gcd_comm a b,Nat.gcd_rec b a,Nat.gcd_comm]
   rw[e1,g1]
   by_cases h1:a % b=0
   ·rw[h1];rw[jsg (by rw[t_ip];rfl),Nat.gcd_zero_right];rfl
   ·have hr:(0:Int)<((a % b:Nat):Int):=by omega
    rw[w_go (by rw[t_ip,beq_eq_false_iff_ne.mpr (by omega)];rfl) (b_ip A B C b (a % b:Nat) hr)];have e2:((b:Int) % ((a % b:Nat):Int))=((b % (a % b):Nat):Int):=by omega
    have g2:Nat.gcd b (a % b)=Nat.gcd (a % b) (b % (a % b)):=by rw[Nat.gcd_comm b,Nat.gcd_rec (a % b) b,Nat.gcd_comm]
    rw[e2,g2];have l1:=Nat.mod_lt a (show 0<b by omega);have l2:=Nat.mod_lt b (show 0<a % b by omega);have l3:b % (a % b)<2 ^ k:=by
     have:2*(b % (a % b))<b:=by
      have q:=Nat.mod_add_div b (a % b);have q1:1<=b / (a % b):=(Nat.le_div_iff_mul_le (by omega)).mpr (by omega);have q2:=Nat.mul_le_mul_left (a % b) q1;omega
     have:2 ^ (k+1)=2*2 ^ k:=by rw[Nat.pow_succ];omega
     omega
    exact jB5 A B C k m _ _ l3 (by omega)
theorem jy5{x y:Int}(h:0<y):Nat.gcd y.toNat (x % y).toNat=Int.gcd x y:=by
 have e:=Int.gcd_add_mul_right_left y (x % y) (x / y);have e2:x % y+x / y*y=x:=by have:=Int.emod_add_mul_ediv x y;rw[Int.mul_comm] at this;exact this
 rw[e2] at e;rw[e,Int.gcd_comm];have h2:=zdw x (show y≠0 by omega);unfold Int.gcd;congr 1<;>omega
theorem jFv(A B C:Option D){p:Fr}(hp:FrOk 8800 p)(hg:Int.gcd p.1 p.2=1):jdm jb5 jb1 FUEL (s5 A B C p.1 p.2)=some (.ok (.nx (s5 A B C 1 0))):=by
 have hf:=jsi;obtain⟨m,hm⟩:∃ n,FUEL=n+1:=⟨FUEL-1,by omega⟩
 have h0:=hp.p;have h2:=zdw p.1 (show p.2≠0 by omega);have h3:=zda p.1 h0;rw[hm,w_go (by rw[t_ip,beq_eq_false_iff_ne.mpr (by omega)];rfl) (b_ip A B C p.1 p.2 h0)];have e:=jB5 A B C 8800 m p.2.toNat (p.1 % p.2).toNat (by
  have:=hp.b;unfold Bt at this;generalize 2 ^ 8800=z at this;omega) (by omega)
 rw[jy5 h0,hg] at e;have e1:((p.2.toNat:Nat):Int)=p.2:=by omega
 have e2:(((p.1 % p.2).toNat:Nat):Int)=p.1 % p.2:=by omega
 rw[e1,e2] at e;exact e
theorem jzz(A B x y:Option D){p:Fr}(hp:FrOk 8800 p)(hg:Int.gcd p.1 p.2=1):jcs [A,B,some (pt p),x,y]=some (.ok (.nx (s5 A B (some (pt p)) 1 0))):=by
 have h0:=hp.p;unfold jcs;rw[jgk (by simp only[stp];rfl)];rw[jgk (by
  simp only[stp,pt0,pt1,jxl];rw[decide_eq_false (show ¬ p.2<1 by omega)];rfl)]
 rw[ja5 (Y':=s5 A B (some (pt p)) p.1 p.2) rfl];rw[ja5 (jFv A B (some (pt p)) hp hg)];exact jk7 (by unfold s5;simp only[stp];rfl)
theorem jt3(A B:Option D):∀ (qs:List Fr) (a b c:Option D),(∀ p∈qs,FrOk 8800 p/\Int.gcd p.1 p.2=1)->∃ a' b' c',forD jcs (DL.gName 2) (qs.map pt) [A,B,a,b,c]=some (.ok (.nx [A,B,a',b',c']))
 | [],a,b,c,_=>⟨a,b,c,rfl⟩
 | p::qs,a,b,c,h=>by
  obtain⟨h1,h2⟩:=h p zaa;obtain⟨a',b',c',e⟩:=jt3 A B qs (some (pt p)) (some (.int 1)) (some (.int 0)) fun z hz=>h z (zaw _ hz)
  refine⟨a',b',c',?_⟩;rw[List.map_cons,jcv (Y1:=[A,B,some (pt p),b,c]) rfl (jzz A B b c h1 h2)];exact e
theorem jB7(P:AllP L u ps):jc9 [.lst (ps.map pt),.int u]=some (.ok (.bl true)):=by
 have hle:(((ps.map pt).length:Int) == (u:Int))=true:=by rw[zav,P.len];simp
 have t0:DL.tOr (DL.tNot (tTru (fL kIsi (jac (fVar 0) (jac (fC (.ty "list")) fNil))))) (DL.t2 gNe (fL kLen (jac (fVar 0) fNil)) (fVar 1)) [some (.lst (ps.map pt)),some (.int u),none,none,none]=some (.ok false):=by
  simp only[stp,hle];rfl
 obtain⟨a',b',c',e⟩:=jt3 (some (.lst (ps.map pt))) (some (.int u)) ps none none none P.fr;unfold jc9;rw[jd0];show (jc8 [some (.lst (ps.map pt)),some (.int u),none,none,none]).b outD=_;unfold jc8;rw[jgk t0];rw[ja5 (show gFor _ _ _ _=some (.ok (.nx _)) from by rw[jew (ds:=ps.map pt) (by simp only[stp];rfl)];exact e)];rfl
end
def kq(r:Rul):Iq:=⟨r.cs,r.rest,false⟩
def bq(r:Rul):Iq:=⟨r.cs.map (- ·),-r.rest,true⟩
theorem rl0(r:Rul):gIx (rulD r) (.int 1)=some (.tup (r.cs.map .int)):=by unfold rulD;rw[ix_t,at1]
theorem rl2(r:Rul):gIx (rulD r) (.int 2)=some (.int r.rest):=by unfold rulD;rw[ix_t,at2]
theorem jzf(r:Rul):jig [rulD r]=some (.ok (iq (kq r))):=by
 unfold jig;rw[jjc];unfold jki;simp only[stp,rl0,rl2];rfl
theorem jso{r:Rul}(h:r.cs.length<=3):jfh [rulD r]=some (.ok (iq (bq r))):=by
 have e:=jcu (c:=[]) (fe:=jf4) (K:=D.int) (F:=fun x=>.int (-x)) r.cs none (fun x hx=>by
  unfold jf4;simp only[stp];rfl)
 have hm:r.cs.map (fun x=>D.int (-x))=(bq r).cs.map .int:=by unfold bq;dsimp only;rw[List.map_map];rfl
 rw[hm] at e;unfold jfh;rw[jjc];unfold jhl;simp only[stp,rl0,rl2,e,jcz (ds:=(bq r).cs.map D.int) (by unfold bq;rw[zav,zav];omega)];rfl
noncomputable def ru(b:Bk)(o:Nat):Rul:=(b.rls[o]?).getD ⟨"",[],0⟩
noncomputable abbrev osD(os:List Nat):D:=.lst (os.map fun o:Nat=>D.int (o:Int))
section
variable {b:Bk}{os:List Nat}{i:Nat}
theorem ju0{o:Nat}(h:o<b.rls.length):atI (b.rls.map rulD) (o:Int)=some (rulD (ru b o)):=atI_get (by
 unfold ru;rw[zbb,zax h];rfl)
theorem ju1(hb:BkOk b){o:Nat}(h:o<b.rls.length):RulOk b.its (ru b o):=by
 unfold ru;rw[zax h];exact hb.rl _ (List.getElem_mem h)
def LQ(b:Bk)(os:List Nat)(i:Nat):List Iq:=os.map (fun o=>kq (ru b o))++[bq (ru b i)]
theorem jCk{its:List (Str×Int)}{r:Rul}(h:RulOk its r):IqOk 112 its.length (kq r):=⟨h.len,fun c hc=>(h.bt c hc).mono (by omega),h.rb.mono (by omega)⟩
theorem jFb{its:List (Str×Int)}{r:Rul}(h:RulOk its r):IqOk 112 its.length (bq r):=by
 refine⟨by unfold bq;rw[zav];exact h.len,fun c hc=>?_,?_⟩
 ·obtain⟨x,hx,rfl⟩:=zca.mp hc;have:=(h.bt x hx).mono (show 10<=112 by omega);unfold Bt at *;omega
 ·have:=h.rb.mono (show 110<=112 by omega);show Bt 112 (-r.rest);unfold Bt at *;omega
theorem jE4(hb:BkOk b)(ho:∀ o∈os,o<b.rls.length)(hi:i<b.rls.length):∀ q∈LQ b os i,IqOk 112 b.its.length q:=fun q hq=>by
 rcases zey.mp hq with hq|hq
 ·obtain⟨o,h,rfl⟩:=zca.mp hq;exact jCk (ju1 hb (ho o h))
 ·cases zex.mp hq;exact jFb (ju1 hb hi)
theorem jxn:(LQ b os i).length=os.length+1:=by unfold LQ;rw[zdb,zav];rfl
inductive Ned(b:Bk)(os:List Nat)(i:Nat):D->Prop
 | point (ps:List Fr) (P:AllP (LQ b os i) b.its.length ps):Ned b os i (.tup [.str "point",.lst (ps.map pt)])
 | weights (w:List Int) (k:Int) (N:NoneW (LQ b os i) b.its.length (w++[k])):Ned b os i (.tup [.str "weights",.int k,.lst (w.map .int)])
theorem jCm{n:Nat}(h:0<n):L2.ixN n (-1)=some (n-1):=by
 unfold L2.ixN;rw[if_neg (by decide),if_pos (by omega)];congr 1;omega
theorem jvj(xs:List D)(x:D):atI (xs++[x]) (-1)=some x:=by
 unfold L2.atI;rw[jCm (by rw[zdb];simp)];simp
theorem jvx(xs:List D)(x:D):cutD (.lst (xs++[x])) none (some (-1))=some (.lst xs):=by
 show some (D.lst (cutL (xs++[x]) none (some (-1))))=_;unfold cutL;have e1:HT.sIx (xs++[x]).length (xs++[x]).length (some (-1))=xs.length:=by
  unfold HT.sIx;dsimp only;rw[if_pos (by decide),zdb];show ((-1:Int)+((xs.length+1:Nat):Int)).toNat=_;omega
 rw[e1];show some (D.lst ((List.drop 0 (xs++[x])).take (xs.length-0)))=_;rw[List.drop_zero,Nat.sub_zero,List.take_left]
theorem jkq(hb:BkOk b)(ho:∀ o∈os,o<b.rls.length)(hl:os.length<=8)(hi:i<b.rls.length)(Ω:Sto):∃ d G,Ned b os i d/\jby [bkD b,osD os,.int (i:Int)] Ω=some (.ok d,Ω++G):=by
 have hu:b.its.length<=3:=hb.i3;obtain⟨d,G,A,es⟩:=ju7 (jE4 hb ho hi) (by rw[jxn];omega) hu Ω;have ec:=jcu (c:=[some (bkD b)]) (fe:=jhh) (K:=fun o:Nat=>D.int (o:Int)) (F:=fun o=>iq (kq (ru b o))) os none (fun o h=>by
  unfold jhh;simp only[stp,ju0 (ho o h),jzf])
 have eb:=jso (r:=ru b i) (by rw[(ju1 hb hi).len];exact hu);have hL:os.map (fun o=>iq (kq (ru b o)))++[iq (bq (ru b i))]=(LQ b os i).map iq:=by
  unfold LQ;rw[List.map_append,List.map_map];rfl
 have pre:∀ r,eSeq (lF (gIf (t2 gEq (f2 gIx (fVar 4) (fC (.int 0))) (fC (.str "point"))) (gRet (fVar 4)) gNx))
  (lF (gRet (fL jcy (jac (fC (.str "weights")) (jac (f2 gIx (f2 gIx (fVar 4) (fC (.int 1))) (f1 gNeg (fC (.int 1)))) (jac (fSl (f2 gIx (fVar 4) (fC (.int 1))) jry (jrz (f1 gNeg (fC (.int 1))))) fNil))))))
   [some (bkD b),some (osD os),some (.int (i:Int)),some (.lst ((LQ b os i).map iq)),some d] (Ω++G)=r->jdu [some (bkD b),some (osD os),some (.int (i:Int)),none,none] Ω=r:=fun r h=>by
  unfold jdu;rw[jea (Y':=[some (bkD b),some (osD os),some (.int (i:Int)),some (.lst (os.map fun o=>iq (kq (ru b o)))),none]) (Ω':=Ω) (u_l (by
   simp only[stp,ec,jcz (ds:=os.map fun o=>iq (kq (ru b o))) (by rw[zav];omega)];rfl))]
  rw[jea (Y':=[some (bkD b),some (osD os),some (.int (i:Int)),some (.lst ((LQ b os i).map iq)),none]) (Ω':=Ω) (u_l (by
   rw[jm8 (d:=iq (bq (ru b i))) (ds:=os.map fun o=>iq (kq (ru b o))) 3 (by simp only[stp,ju0 hi,eb]) rfl (by rw[zav];omega),hL];rfl))]
  rw[jea (Y':=[some (bkD b),some (osD os),some (.int (i:Int)),some (.lst ((LQ b os i).map iq)),some d]) (Ω':=Ω++G) (jxh (by
   rw[jl5 (ds:=[.lst ((LQ b os i).map iq),.int b.its.length]) (Ω1:=Ω) (u_l (by simp only[stp,zav];rfl))];exact es))]
  exact h
 have start:∀ d',(∃ r,jdu [some (bkD b),some (osD os),some (.int (i:Int)),none,none] Ω=some (.ok r,Ω++G)/\outE r=MS.p d')->jby [bkD b,osD os,.int (i:Int)] Ω=some (.ok d',Ω++G):=fun d' ⟨r,h,h2⟩=>by
  unfold jby;rw[jyf];show ((jdu [some (bkD b),some (osD os),some (.int (i:Int)),none,none]).b outE) Ω=_;rw[v_b h,h2];rfl
 cases A with
 | point ps P =>
  refine⟨_,G,.point ps P,start _ ⟨_,pre _ (u_rt (u_l ?_)),rfl⟩⟩;rw[w_if (b:=true) (by simp only[stp,ix_t,at0];rfl),if_pos rfl];exact jjn rfl
 | weights w N =>
  have hw:=N.len;rw[jxn] at hw;obtain⟨w,k,rfl⟩:∃ w' k,w=w'++[k]:=by
   have hne:w≠[]:=fun h=>by rw[h] at hw;cases hw
   exact⟨w.dropLast,w.getLast hne,(List.dropLast_concat_getLast hne).symm⟩
  refine⟨_,G,.weights w k N,start _ ⟨.rt (.tup [.str "weights",.int k,.lst (w.map .int)]),pre _ ?_,rfl⟩⟩;rw[jea (Y':=[some (bkD b),some (osD os),some (.int (i:Int)),some (.lst ((LQ b os i).map iq)),some (.tup [.str "weights",.lst ((w++[k]).map .int)])]) (Ω':=Ω++G) (u_l (jk7 (by simp only[stp,ix_t,at0];rfl)))];have hm:(w++[k]).map D.int=w.map .int++[.int k]:=by rw[List.map_append];rfl
  refine u_l (jjn ?_);have sl:fSl (f2 gIx (fVar 4) (fC (.int 1))) jry (jrz (f1 gNeg (fC (.int 1)))) [some (bkD b),some (osD os),some (.int (i:Int)),some (.lst ((LQ b os i).map iq)),some (.tup [.str "weights",.lst ((w++[k]).map .int)])]=some (.ok (.lst (w.map .int))):=by
   show M.o (cutD (.lst ((w++[k]).map .int)) none (some (-1)))=_;rw[hm,jvx];rfl
  have nx:f2 gIx (f2 gIx (fVar 4) (fC (.int 1))) (f1 gNeg (fC (.int 1))) [some (bkD b),some (osD os),some (.int (i:Int)),some (.lst ((LQ b os i).map iq)),some (.tup [.str "weights",.lst ((w++[k]).map .int)])]=some (.ok (.int k)):=by
   show M.o (atI ((w++[k]).map D.int) (-1))=_;rw[hm,jvj];rfl
  rw[e_L,jlq,show fC (.str "weights") _=some (.ok (.str "weights")) from rfl,M.b_ok,jlq,nx,M.b_ok,jlq,sl,M.b_ok];rfl
end
end
open FM (Fr dt col rests strict lin2 unit InC Gen Sup bot ml tp tops Good en btw fle)
section
theorem jm1:∀ ss:List Int,bot (ss.map fun s=>(s,1))=1/\ml (ss.map fun s=>(s,1))=ss
 | []=>⟨rfl,rfl⟩
 | s::ss=>by
  obtain⟨h1,h2⟩:=jm1 ss;rw[List.map_cons];unfold FM.bot FM.ml;rw[h1,h2];refine⟨rfl,?_⟩;simp
section
variable {b:Bk}{os:List Nat}{i:Nat}{w:List Int}{k:Int}
def KQ(b:Bk)(os:List Nat):List Iq:=os.map fun o=>kq (ru b o)
structure Fol(b:Bk)(os:List Nat)(i:Nat)(w:List Int)(k:Int):Prop where
 len:w.length=os.length
 k1:1<=k
 nn:∀ x∈w,0<=x
 bt:(∀ x∈w,Bt 900 x)/\Bt 900 k
 z:∀ j<b.its.length,dt (col (KQ b os) j) w=k*(ru b i).cs.getD j 0
 r:dt (rests (KQ b os)) w<=k*(ru b i).rest
end
section
variable {b:Bk}{os:List Nat}{i:Nat}{ps:List Fr}
theorem jA8(r:Rul)(ps:List Fr):tp (bq r).cs (bq r).r ps=-(tp (kq r).cs (kq r).r ps):=by
 unfold FM.tp bq kq;dsimp only;rw[FM.dt_neg,Int.neg_mul];omega
theorem jqw(hb:BkOk b)(P:AllP (LQ b os i) b.its.length ps){o:Nat}(h:o<b.rls.length):jb2 [iq (kq (ru b o)),.lst (ps.map pt)]=some (.ok (.bl (enB (tp (ru b o).cs (ru b o).rest ps) false))) :=
 jty (jCk (ju1 hb h)) hb.i3 P.len fun p hp=>(P.fr p hp).1
theorem jCl(P:AllP (LQ b os i) b.its.length ps){o:Nat}(h:o∈os):enB (tp (ru b o).cs (ru b o).rest ps) false=true :=
 enB_iff.mpr (P.all (kq (ru b o)) (zdy _ (zca.mpr ⟨o,h,rfl⟩)))
theorem jF0(P:AllP (LQ b os i) b.its.length ps):enB (tp (ru b i).cs (ru b i).rest ps) false=false:=by
 have h:=P.all (bq (ru b i)) (zcz _ (zex.mpr rfl));rw[jA8] at h;have h2:0 < -(tp (ru b i).cs (ru b i).rest ps):=h;unfold enB;rw[if_neg (by decide)];exact decide_eq_false (by omega)
abbrev br5(b:Bk)(os:List Nat)(i:Nat)(ps:List Fr)(a:Option D):DSt:=[some (bkD b),some (osD os),some (.int (i:Int)),some (.tup [.str "point",.lst (ps.map pt)]),a]
theorem jCq(hb:BkOk b)(P:AllP (LQ b os i) b.its.length ps):∀ (zs:List Nat) (a:Option D),(∀ o∈zs,o∈os/\o<b.rls.length) ->
  ∃ a',forD je9 (DL.gName 4) (zs.map fun o:Nat=>D.int (o:Int)) (br5 b os i ps a)=some (.ok (.nx (br5 b os i ps a')))
 | [],a,_=>⟨a,rfl⟩
 | o::zs,a,h=>by
  obtain⟨h1,h2⟩:=h o zaa;obtain⟨a',e⟩:=jCq hb P zs (some (.int (o:Int))) fun x hx=>h x (zaw _ hx)
  refine⟨a',?_⟩;have hh:=jqw hb P h2;rw[jCl P h1] at hh;have hh2:jb2 [.tup [.tup ((ru b o).cs.map .int),.int (ru b o).rest,.bl false],.lst (ps.map pt)]=some (.ok (.bl true)):=hh;rw[List.map_cons,jcv (Y1:=br5 b os i ps (some (.int (o:Int)))) (Y2:=br5 b os i ps (some (.int (o:Int)))) rfl (by
   unfold je9;refine jk7 ?_;simp only[stp,ix_t,at1,ju0 h2,rl0,rl2,hh2];rfl)]
  exact e
theorem jsn(hb:BkOk b)(ho:∀ o∈os,o<b.rls.length)(hi:i<b.rls.length)(P:AllP (LQ b os i) b.its.length ps):jen [bkD b,osD os,.int (i:Int),.tup [.str "point",.lst (ps.map pt)]]=some (.ok (.bl true)):=by
 obtain⟨a',e⟩:=jCq hb P os none fun o h=>⟨h,ho o h⟩
 have hh:=jqw hb P hi;rw[jF0 P] at hh;have hh2:jb2 [.tup [.tup ((ru b i).cs.map .int),.int (ru b i).rest,.bl false],.lst (ps.map pt)]=some (.ok (.bl false)):=hh;have ip:=jB7 P;unfold jen;rw[jxw];show (jei (br5 b os i ps none)).b outD=_;unfold jei;rw[jgk (by simp only[stp,ix_t,at0,at1,zav,ip];rfl)];rw[ja5 (show gFor _ _ _ _=some (.ok (.nx _)) from by rw[jew (ds:=os.map fun o:Nat=>D.int (o:Int)) (by simp only[stp];rfl)];exact e)];rw[jjn (d:=.bl true) (by
  simp only[stp,ix_t,at1,ju0 hi,rl0,rl2,hh2];rfl)]
 rfl
end
end
open FM (Fr dt col rests strict lin2 unit InC Gen Sup bot ml tp tops Good en btw fle)
section
def valF(r:Rul)(st:List Int):Int:=dt r.cs st+r.rest
structure Sol(L:List Iq)(u:Nat)(ps:List Fr):Prop where
 len:ps.length=u
 b:0<bot ps
 all:∀ q∈L,en (tp q.cs q.r ps) q.s
theorem jyg{L:List Iq}{u:Nat}{ps:List Fr}{w:List Int}(S:Sol L u ps)(N:NoneW L u w):False :=
 N.no (FM.no_both S.b S.all N.len N.nn fun j hj=>N.z j (by rw[<- S.len];exact hj))
noncomputable def ne1(o x:Nat):Bool:=!((x:Int) == (o:Int))
theorem ne1_iff{o x:Nat}:ne1 o x=true↔x≠o:=by
 unfold ne1;rw[Bool.not_eq_true',beq_eq_false_iff_ne];omega
section
variable {b:Bk}{os:List Nat}{i:Nat}{w:List Int}{k:Int}
theorem jAr{os':List Nat}{u:Nat}{ps:List Fr}(S:Sol (LQ b os i) u ps)(h:∀ o∈os',o∈os):Sol (LQ b os' i) u ps:=by
 refine⟨S.len,S.b,fun q hq=>?_⟩;rcases zey.mp hq with hq|hq
 ·obtain⟨o,ho,rfl⟩:=zca.mp hq;exact S.all _ (zdy _ (zca.mpr ⟨o,h o ho,rfl⟩))
 ·exact S.all _ (zcz _ hq)
theorem jx0(cs:List Int)(r:Int)(st:List Int):tp cs r (st.map fun s=>(s,1))=dt cs st+r:=by
 unfold FM.tp;rw[(jm1 st).1,(jm1 st).2];omega
theorem jy9{u:Nat}{st:List Int}(hl:st.length=u)(h:∀ o∈os,0<=valF (ru b o) st)(hi:valF (ru b i) st<0):Sol (LQ b os i) u (st.map fun s=>(s,1)):=by
 refine⟨by rw[zav];exact hl,by rw[(jm1 st).1];decide,fun q hq=>?_⟩;rcases zey.mp hq with hq|hq
 ·obtain⟨o,ho,rfl⟩:=zca.mp hq;have:=h o ho;show en (tp (ru b o).cs (ru b o).rest _) false;rw[jx0];exact this
 ·cases zex.mp hq;rw[jA8];show en (-(tp (ru b i).cs (ru b i).rest _)) true;rw[jx0];unfold valF at hi;show 0<_;omega
structure Cnt(b:Bk)(j:Nat)(P:List Nat):Prop where
 mem:∀ o∈P,o<b.rls.length
 len:P.length<=b.rls.length
 all:∀ st:List Int,st.length=b.its.length->(∀ o∈P,0<=valF (ru b o) st)->∀ o,o<b.rls.length->0<=valF (ru b o) st
 min:∀ o∈P,o<j->∃ ps,Sol (LQ b (P.filter (ne1 o)) o) b.its.length ps
theorem jvq{j:Nat}{P:List Nat}(C:Cnt b j P){d:D}(h:Ned b (P.filter (ne1 j)) j d):∃ t:Bool,gIx d (.int 0)=some (.str (if t then "weights" else "point"))/\Cnt b (j+1) (if t then P.filter (ne1 j) else P):=by
 cases h with
 | point ps A =>
  refine⟨false,by rw[ix_t,at0];rfl,?_⟩;show Cnt b (j+1) P;refine⟨C.mem,C.len,C.all,fun o ho hj=>?_⟩
  by_cases h:o=j
  ·subst h;exact⟨ps,A.len,A.b,A.all⟩
  ·exact C.min o ho (by omega)
 | weights w k N =>
  refine⟨true,by rw[ix_t,at0];rfl,?_⟩;show Cnt b (j+1) (P.filter (ne1 j));refine⟨fun o ho=>C.mem o (zdx.mp ho).1,zez (List.length_filter_le _ _) C.len,fun st hl h=>C.all st hl fun o ho=>?_,fun o ho hj=>?_⟩
  ·by_cases e:o=j
   ·subst e;refine Int.not_lt.mp fun c=>?_
    exact jyg (jy9 hl h c) N
   ·exact h o (zdx.mpr ⟨ho,ne1_iff.mpr e⟩)
  ·obtain⟨h1,h2⟩:=zdx.mp ho;have e:=ne1_iff.mp h2;obtain⟨ps,S⟩:=C.min o h1 (by omega);refine⟨ps,jAr S fun x hx=>?_⟩;obtain⟨x1,x2⟩:=zdx.mp hx;exact zdx.mpr ⟨(zdx.mp x1).1,x2⟩
theorem js0{fe:DSt->M D}(P:List Nat)(j:Nat)(hf:∀ (o:Nat) (c:DSt),fe (some (.int (o:Int))::c)=some (.ok (.int (o:Int)))):jb0 (DL.gName 0) (t2 gNe (fVar 0) (fVar 1)) fe (P.map fun o:Nat=>D.int (o:Int)) [none,some (.int (j:Int))]=some ((P.filter (ne1 j)).map fun o:Nat=>D.int (o:Int)) :=
 jey (c:=[some (.int (j:Int))]) (K:=fun o:Nat=>D.int (o:Int)) (p:=ne1 j) P none (fun o _=>by simp only[stp];rfl) (fun o _=>hf o _)
abbrev c4(b:Bk)(P:List Nat)(x y:Option D):DSt:=[some (bkD b),some (osD P),x,y]
theorem jxb(hb:BkOk b){j:Nat}(hj:j<b.rls.length){P:List Nat}(C:Cnt b j P)(y:Option D)(Ω:Sto):∃ P' y' Ω',Cnt b (j+1) P'/\jgm (c4 b P (some (.int (j:Int))) y) Ω=some (.ok (.nx (c4 b P' (some (.int (j:Int))) y')),Ω'):=by
 have hr4:=hb.r4;have hP:=C.len;have hfl:(P.filter (ne1 j)).length<=P.length:=List.length_filter_le _ _;obtain⟨d,G,A,en⟩:=jkq hb (os:=P.filter (ne1 j)) (fun o ho=>C.mem o (zdx.mp ho).1) (by omega) hj Ω;obtain⟨t,ht,C'⟩:=jvq C A;have cf:=js0 (fe:=jlp) P j fun o c=>rfl
 refine⟨_,some (osD (P.filter (ne1 j))),Ω++G,C',?_⟩;unfold jgm;rw[jea (Y':=c4 b P (some (.int (j:Int))) (some (osD (P.filter (ne1 j))))) (Ω':=Ω) (u_l (by
  simp only[stp,cf,jcz (ds:=(P.filter (ne1 j)).map fun o:Nat=>D.int (o:Int)) (by rw[zav];omega)];rfl))]
 have e1:jid jby (lF (jac (fVar 0) (jac (fVar 3) (jac (fVar 2) fNil)))) (c4 b P (some (.int (j:Int))) (some (osD (P.filter (ne1 j))))) Ω=some (.ok d,Ω++G):=by
  rw[jl5 (ds:=[bkD b,osD (P.filter (ne1 j)),.int (j:Int)]) (Ω1:=Ω) (u_l (by simp only[stp];rfl))];exact en
 have g1:m2 gIx (jid jby (lF (jac (fVar 0) (jac (fVar 3) (jac (fVar 2) fNil))))) (lF (fC (.int 0))) (c4 b P (some (.int (j:Int))) (some (osD (P.filter (ne1 j))))) Ω=some (.ok (.str (if t then "weights" else "point")),Ω++G):=by
  rw[s_2,v_b e1,v_b (u_l (a:=D.int 0) rfl),ht];rfl
 have g2:m2 gEq (m2 gIx (jid jby (lF (jac (fVar 0) (jac (fVar 3) (jac (fVar 2) fNil))))) (lF (fC (.int 0)))) (lF (fC (.str "weights"))) (c4 b P (some (.int (j:Int))) (some (osD (P.filter (ne1 j))))) Ω=some (.ok (.bl t),Ω++G):=by
  rw[s_2,v_b g1,v_b (u_l (a:=D.str "weights") rfl)];cases t<;>rfl
 have g3:DL.mB (m2 gEq (m2 gIx (jid jby (lF (jac (fVar 0) (jac (fVar 3) (jac (fVar 2) fNil))))) (lF (fC (.int 0)))) (lF (fC (.str "weights")))) (c4 b P (some (.int (j:Int))) (some (osD (P.filter (ne1 j))))) Ω=some (.ok t,Ω++G):=by
  rw[s_B,v_b g2];rfl
 rw[u_if g3];cases t<;>rfl
theorem jqz(hb:BkOk b):∀ (n j:Nat) (P:List Nat) (x y:Option D) (Ω:Sto),j+n=b.rls.length->Cnt b j P->∃ P' x' y' Ω',Cnt b b.rls.length P'/\forE jgm (DL.gName 2) (jap (j:Int) n) (c4 b P x y) Ω=some (.ok (.nx (c4 b P' x' y')),Ω')
 | 0,j,P,x,y,Ω,h,C=>by
  have e:j=b.rls.length:=by omega
  subst e;exact⟨P,x,y,Ω,C,rfl⟩
 | n+1,j,P,x,y,Ω,h,C=>by
  obtain⟨P1,y1,Ω1,C1,e1⟩:=jxb hb (j:=j) (by omega) C y Ω;obtain⟨P',x',y',Ω',C',e2⟩:=jqz hb n (j+1) P1 (some (.int (j:Int))) y1 Ω1 (by omega) C1;refine⟨P',x',y',Ω',C',?_⟩;rw[jl2,jh9 (Y1:=c4 b P (some (.int (j:Int))) y) rfl e1];exact e2
theorem jrr(hb:BkOk b)(Ω:Sto):∃ P Ω',Cnt b b.rls.length P/\jif [bkD b] Ω=some (.ok (osD P),Ω'):=by
 have hr4:=hb.r4;have hr:jap 0 b.rls.length=(List.range b.rls.length).map fun o:Nat=>D.int (o:Int):=by
  have:=jl1 b.rls.length (fun d=>d);rw[List.map_id'] at this;exact this
 obtain⟨P,x,y,Ω',C,e⟩:=jqz hb b.rls.length 0 (List.range b.rls.length) none none Ω (by omega) ⟨fun o ho=>zdc.mp ho,by rw[List.length_range];exact zac _,fun st _ h o ho=>h o (zdc.mpr ho),fun o _ h=>absurd h (by omega)⟩;refine⟨P,Ω',C,?_⟩;have kr:jwg [.int (b.rls.length:Int)]=some (osD (List.range b.rls.length)):=by
  show (if 0<=(b.rls.length:Int)/\(b.rls.length:Int)<=1000000 then some (D.lst (jap 0 (b.rls.length:Int).toNat)) else none)=_;rw[if_pos (by omega),Int.toNat_natCast,hr]
 unfold jif;rw[ju2];show ((jga [some (bkD b),none,none,none]).b outE) Ω=_;have h:jga [some (bkD b),none,none,none] Ω=some (.ok (.rt (osD P)),Ω'):=by
  unfold jga;rw[jea (Y':=c4 b (List.range b.rls.length) none none) (Ω':=Ω) (u_l (by simp only[stp,ix_t,at1,zav,kr];rfl))];rw[jea (show eFor _ _ _ _ _=some (.ok (.nx _),_) from by rw[jxg (ds:=jap 0 b.rls.length) (u_l (by simp only[stp,ix_t,at1,zav];rfl))];exact e)];exact u_l (jjn rfl)
 rw[v_b h];rfl
end
end
open FM (Fr dt col rests strict lin2 unit InC Gen Sup bot ml tp tops Good en btw fle)
section
section
variable {b:Bk}{ns:List Int}
noncomputable def stsF(b:Bk):List Int:=b.its.map (·.2)
theorem ju8(hb:BkOk b):jeo [bkD b]=some (.ok (.tup ((stsF b).map .int))):=by
 have ec:=jcu (c:=[]) (fe:=jfc) (K:=itD) (F:=fun p=>.int p.2) b.its none (fun p hp=>by
  unfold jfc itD;simp only[stp];rfl)
 have ln:(b.its.map fun p=>D.int p.2).length<=1000:=by rw[zav];have:=hb.i3;omega
 unfold jeo;rw[jjc];unfold jgc;simp only[stp,ec,jcz ln,Nat.reduceSub];unfold stsF;rw[jCy (fun p:Str×Int=>D.int p.2) (·.2) b.its fun _=>rfl];rfl
theorem jrb(hb:BkOk b){o:Nat}(ho:o<b.rls.length){st:List Int}(hs:∀ x∈st,Bt 100 x):jc2 [bkD b,.int (o:Int),.tup (st.map .int)]=some (.ok (.int (valF (ru b o) st))):=by
 have hr:=ju1 hb ho;have ec:=jdz (c:=[]) (fe:=jf5) (K:=fun p:Int×Int=>(D.int p.1,D.int p.2)) (F:=fun p=>.int (p.1*p.2)) ((ru b o).cs.zip st) none none (fun p hp=>by
  unfold jf5;have:=ja6 (a:=10) (b:=100) (hr.bt p.1 (zdz hp).1) (hs p.2 (zdz hp).2);simp only[stp,this];rfl)
 have ln:(((ru b o).cs.zip st).map fun p=>D.int (p.1*p.2)).length<=1000:=by
  rw[zav,List.length_zip];have:=hr.len;have:=hb.i3;omega
 unfold jc2;rw[jlr];unfold jhq;simp only[stp,ju0 ho,rulD,ec,jcz ln,jp3,Nat.reduceSub];rfl
theorem jnu:∀ (xs:List Int) (k:Nat),jdk (k:Int) (xs.map .int)=(xs.zipIdx k).map fun p=>.tup [.int (p.2:Int),.int p.1]
 | [],k=>rfl
 | x::xs,k=>by
  have ih:=jnu xs (k+1);rw[List.map_cons,List.zipIdx_cons,List.map_cons];show D.tup [.int k,.int x]::jdk ((k:Int)+1) (xs.map .int)=_;rw[<- ih];rfl
noncomputable def pw3(o:Nat):Int:=if o=0 then 1 else if o=1 then 41 else 1681
theorem jDw{o:Nat}(h:o<3):atI [D.int 1,.int 41,.int 1681] (o:Int)=some (.int (pw3 o))/\0<pw3 o/\pw3 o<=1681:=by
 have:o=0\/o=1\/o=2:=by omega
 rcases this with rfl|rfl|rfl<;>exact⟨rfl,by decide,by decide⟩
def nowF(b:Bk)(m:Int):List Int:=(stsF b).zipIdx.map fun p=>p.1+m / pw3 p.2 % 41-20
theorem jzt(m:Int):(nowF b m).length=b.its.length:=by unfold nowF stsF;simp
theorem jC8(hb:BkOk b)(m:Int):∀ x∈nowF b m,Bt 100 x:=fun x hx=>by
 obtain⟨p,hp,rfl⟩:=zca.mp hx;have h1:=List.fst_mem_of_mem_zipIdx hp;obtain⟨q,hq,e⟩:=zca.mp h1;have h2:=hb.st q hq;have e':q.2=p.1:=e;rw[e'] at h2;have r1:=zdw (m / pw3 p.2) (show (41:Int)≠0 by decide);have r2:=zda (m / pw3 p.2) (show (0:Int)<41 by decide);unfold Bt;have z:(2:Nat) ^ 90+100<2 ^ 100:=by decide
 omega
theorem jvu(hb:BkOk b)(m:Int):jb0 (jcq 0 1) tYes jqb (jdk 0 ((stsF b).map .int)) [none,none,some (.int m)]=some ((nowF b m).map .int):=by
 have e:=jdz (c:=[some (.int m)]) (fe:=jqb) (K:=fun p:Int×Nat=>(D.int (p.2:Int),D.int p.1)) (F:=fun p=>.int (p.1+m / pw3 p.2 % 41-20)) (stsF b).zipIdx none none (fun p hp=>by
  have hl:p.2<3:=by
   have:=List.snd_lt_of_mem_zipIdx hp;unfold stsF at this;rw[zav] at this;have:=hb.i3;omega
  obtain⟨h1,h2,h3⟩:=jDw hl;have e0:pw3 p.2<2 ^ 200:=Int.lt_of_le_of_lt h3 (by decide);have e1:=jb6 (i:=m) (j:=pw3 p.2) h2 e0;have e2:=jba (i:=m / pw3 p.2) (j:=41) (by decide);have l3:jbi [.int 1,.int 41,.int 1681]=some (.lst [.int 1,.int 41,.int 1681]):=rfl;unfold jqb;simp only[stp,l3,h1,e1,e2];rfl)
 have e0:=jnu (stsF b) 0;rw[show ((0:Nat):Int)=0 from rfl] at e0;rw[e0,e];unfold nowF;rw[List.map_map];rfl
theorem eqBs_len:∀ (xs ys:List D),eqBs xs ys=true->xs.length=ys.length
 | [],[],_=>rfl
 | x::xs,y::ys,h=>by
  unfold eqBs at h;rw[Bool.and_eq_true] at h;rw[List.length_cons,List.length_cons,eqBs_len xs ys h.2]
 | [],_::_,h=>by unfold eqBs at h;cases h
 | _::_,[],h=>by unfold eqBs at h;cases h
theorem jDb(os:List Nat):okD (osD os)=true:=by unfold okD;exact jq2 fun x _=>by unfold okD;rfl
theorem jBg(os:List Nat):depD (osD os)<=1:=by
 unfold depD;have:depDs (os.map fun o:Nat=>D.int (o:Int))<=0:=jnq fun x _=>by unfold depD;omega
 omega
theorem jGc(A B:List Nat):∃ c:Bool,gNe (osD A) (osD B)=some (.bl c)/\(c=false->A.length=B.length):=by
 refine⟨!(eqB (osD A) (osD B)),?_,fun h=>?_⟩
 ·unfold gNe;rw[if_pos];rw[Bool.and_eq_true,Bool.and_eq_true,decide_eq_true_eq];exact⟨⟨jDb A,jDb B⟩,by have:=jBg A;omega⟩
 ·have h2:eqB (osD A) (osD B)=true:=by
   cases z:eqB (osD A) (osD B) with
   | true=>rfl
   | false=>rw[z] at h;cases h
  unfold eqB at h2;have:=eqBs_len _ _ h2;rw[zav,zav] at this;exact this
abbrev s11(ns:List Int)(b:Bk)(P:List Nat)(a4 a5 a6 a7 a8 a9 a10:Option D):DSt:=[some (scr ns),some (bkD b),some (osD P),some (.tup ((stsF b).map .int)),a4,a5,a6,a7,a8,a9,a10]
theorem jt2(hb:BkOk b){P:List Nat}{st:List Int}(hs:∀ x∈st,Bt 100 x)(a4 a5 a7 a9 a10:Option D):∀ (is:List Nat) (a8:Option D),(∀ o∈is,o<b.rls.length/\0<=valF (ru b o) st) ->
  ∃ a8',forD jp7 (DL.gName 8) (is.map fun o:Nat=>D.int (o:Int)) (s11 ns b P a4 a5 (some (.tup (st.map .int))) a7 a8 a9 a10)=some (.ok (.nx (s11 ns b P a4 a5 (some (.tup (st.map .int))) a7 a8' a9 a10)))
 | [],a8,_=>⟨a8,rfl⟩
 | o::is,a8,h=>by
  obtain⟨h1,h2⟩:=h o zaa;obtain⟨a8',e⟩:=jt2 hb hs a4 a5 a7 a9 a10 is (some (.int (o:Int))) fun x hx=>h x (zaw _ hx)
  refine⟨a8',?_⟩;have sp:=jrb hb h1 hs;rw[List.map_cons,jcv (Y1:=s11 ns b P a4 a5 (some (.tup (st.map .int))) a7 (some (.int (o:Int))) a9 a10) (Y2:=s11 ns b P a4 a5 (some (.tup (st.map .int))) a7 (some (.int (o:Int))) a9 a10) rfl (by
   unfold jp7;refine jk7 ?_;simp only[stp,sp];rw[decide_eq_false (by omega)];rfl)]
  exact e
theorem jxc(hb:BkOk b){P:List Nat}(C:Cnt b b.rls.length P){j:Nat}(hj:j<40)(a5 a6 a7 a8 a9 a10:Option D) :
  ∃ a5' a6' a7' a8',(jlo (s11 ns b P (some (.int (j:Int))) a5 a6 a7 a8 a9 a10)=some (.ok (.nx (s11 ns b P (some (.int (j:Int))) a5' a6' a7' a8' a9 a10)))\/jlo (s11 ns b P (some (.int (j:Int))) a5 a6 a7 a8 a9 a10)=some (.ok (.ct (s11 ns b P (some (.int (j:Int))) a5' a6' a7' a8' a9 a10)))):=by
 have hr4:=hb.r4;have hP:=C.len;have c6:=jfv (ns:=ns) (k:=6+(j:Int)) (by omega);have mx:=jA0 (n:=jka ns (6+(j:Int))) (p:=6+(j:Int)) (by omega) (by omega);generalize mixF (jka ns (6+(j:Int))) (6+(j:Int))=m at mx;have hs:=jC8 hb m;have cn:=jvu hb m;have ea:jh6 [.tup ((stsF b).map .int)]=some (jdk 0 ((stsF b).map .int)):=rfl;have ln:=jzt (b:=b) m;have hu:=hb.i3;generalize hst:nowF b m=st at hs cn ln;have cf:=jey (c:=[some (bkD b),some (.tup (st.map .int))]) (tc:=t2 gGe (ja2 jc2 (jac (fVar 1) (jac (fVar 0) (jac (fVar 2) fNil)))) (fC (.int 0))) (fe:=jxs) (K:=fun o:Nat=>D.int (o:Int)) (p:=fun o=>decide (0<=valF (ru b o) st)) P none (fun o ho=>by
  simp only[stp,jrb hb (C.mem o ho) hs];rfl) (fun o _=>rfl)
 have hfl:(P.filter fun o=>decide (0<=valF (ru b o) st)).length<=P.length:=List.length_filter_le _ _;obtain⟨c,hc,hc2⟩:=jGc (P.filter fun o=>decide (0<=valF (ru b o) st)) P;have pre:∀ r,(gSeq (gIf (t2 gNe (fVar 7) (fVar 2)) gCnt gNx) (gFor (jca ja9 (jac (fL kLen (jac (f2 gIx (fVar 1) (fC (.int 1))) fNil)) fNil)) (DL.gName 8) jp7)) (s11 ns b P (some (.int (j:Int))) (some (.int m)) (some (.tup (st.map .int))) (some (osD (P.filter fun o=>decide (0<=valF (ru b o) st)))) a8 a9 a10)=r->jlo (s11 ns b P (some (.int (j:Int))) a5 a6 a7 a8 a9 a10)=r:=fun r h=>by
  unfold jlo;rw[ja5 (Y':=s11 ns b P (some (.int (j:Int))) (some (.int m)) a6 a7 a8 a9 a10) (by simp only[stp,c6,mx];rfl)];rw[ja5 (Y':=s11 ns b P (some (.int (j:Int))) (some (.int m)) (some (.tup (st.map .int))) a7 a8 a9 a10) (by
   simp only[stp,ea,cn,jcz (ds:=st.map D.int) (by rw[zav];omega)];rfl)]
  rw[ja5 (Y':=s11 ns b P (some (.int (j:Int))) (some (.int m)) (some (.tup (st.map .int))) (some (osD (P.filter fun o=>decide (0<=valF (ru b o) st)))) a8 a9 a10) (by
   simp only[stp,cf,jcz (ds:=(P.filter fun o=>decide (0<=valF (ru b o) st)).map fun o:Nat=>D.int (o:Int)) (by rw[zav];omega)];rfl)]
  exact h
 have t0:t2 gNe (fVar 7) (fVar 2) (s11 ns b P (some (.int (j:Int))) (some (.int m)) (some (.tup (st.map .int))) (some (osD (P.filter fun o=>decide (0<=valF (ru b o) st)))) a8 a9 a10)=some (.ok c):=by
  simp only[stp,hc];rfl
 cases c with
 | true =>
  refine⟨some (.int m),some (.tup (st.map .int)),some (osD (P.filter fun o=>decide (0<=valF (ru b o) st))),a8,.inr (pre _ ?_)⟩;rw[jv7,w_if t0,if_pos rfl];rfl
 | false =>
  have hall:∀ o∈P,0<=valF (ru b o) st:=fun o ho=>by
   have:=List.length_filter_eq_length_iff.mp (hc2 rfl) o ho;simpa using this
  have all:=C.all st (by rw[ln]) hall;obtain⟨a8',e⟩:=jt2 (ns:=ns) (P:=P) hb hs (some (.int (j:Int))) (some (.int m)) (some (osD (P.filter fun o=>decide (0<=valF (ru b o) st)))) a9 a10 (List.range b.rls.length) a8 fun o ho=>⟨zdc.mp ho,all o (zdc.mp ho)⟩
  have hr:jap 0 b.rls.length=(List.range b.rls.length).map fun o:Nat=>D.int (o:Int):=by
   have:=jl1 b.rls.length (fun d=>d);rw[List.map_id'] at this;exact this
  rw[<- hr] at e;refine⟨some (.int m),some (.tup (st.map .int)),some (osD (P.filter fun o=>decide (0<=valF (ru b o) st))),a8',.inl (pre _ ?_)⟩;rw[jgk t0];rw[jew (ds:=jap 0 b.rls.length) (by simp only[stp,ix_t,at1,zav];rfl)];exact e
theorem jn3(hb:BkOk b){P:List Nat}(C:Cnt b b.rls.length P)(a4 a5 a6 a7:Option D):∀ (is:List Nat) (a8 a9 a10:Option D) (Ω:Sto),(∀ o∈is,o∈P) ->
  ∃ a8' a9' a10' Ω',forE jsm (DL.gName 8) (is.map fun o:Nat=>D.int (o:Int)) (s11 ns b P a4 a5 a6 a7 a8 a9 a10) Ω=some (.ok (.nx (s11 ns b P a4 a5 a6 a7 a8' a9' a10')),Ω')
 | [],a8,a9,a10,Ω,_=>⟨a8,a9,a10,Ω,rfl⟩
 | o::is,a8,a9,a10,Ω,h=>by
  have hr4:=hb.r4;have hP:=C.len;have ho:=h o zaa;have hfl:(P.filter (ne1 o)).length<=P.length:=List.length_filter_le _ _;have hm:∀ x∈P.filter (ne1 o),x<b.rls.length:=fun x hx=>C.mem x (zdx.mp hx).1
  obtain⟨d,G,A,en⟩:=jkq hb (os:=P.filter (ne1 o)) hm (by omega) (C.mem o ho) Ω;obtain⟨ps0,S⟩:=C.min o ho (C.mem o ho);obtain⟨a8',a9',a10',Ω',e⟩:=jn3 hb C a4 a5 a6 a7 is (some (.int (o:Int))) (some (osD (P.filter (ne1 o)))) (some d) (Ω++G) fun x hx=>h x (zaw _ hx)
  refine⟨a8',a9',a10',Ω',?_⟩;have cf:=js0 (fe:=jxt) P o fun o c=>rfl
  cases A with
  | weights w k N=>exact absurd N (fun N=>jyg S N)
  | point ps Q =>
   have bk:=jsn hb hm (C.mem o ho) Q;rw[List.map_cons,jh9 (Y1:=s11 ns b P a4 a5 a6 a7 (some (.int (o:Int))) a9 a10) (Y2:=s11 ns b P a4 a5 a6 a7 (some (.int (o:Int))) (some (osD (P.filter (ne1 o)))) (some (.tup [.str "point",.lst (ps.map pt)]))) (Ω1:=Ω++G) rfl (by
    unfold jsm;rw[jea (Y':=s11 ns b P a4 a5 a6 a7 (some (.int (o:Int))) (some (osD (P.filter (ne1 o)))) a10) (Ω':=Ω) (u_l (by
     simp only[stp,cf,jcz (ds:=(P.filter (ne1 o)).map fun o:Nat=>D.int (o:Int)) (by rw[zav];omega)];rfl))]
    rw[jea (Y':=s11 ns b P a4 a5 a6 a7 (some (.int (o:Int))) (some (osD (P.filter (ne1 o)))) (some (.tup [.str "point",.lst (ps.map pt)]))) (Ω':=Ω++G) (jxh (by
     rw[jl5 (ds:=[bkD b,osD (P.filter (ne1 o)),.int (o:Int)]) (Ω1:=Ω) (u_l (by simp only[stp];rfl))];exact en))]
    refine u_l (jk7 ?_);simp only[stp,ix_t,at0,bk];rfl)]
   exact e
end
theorem law_true:∀ ns:List Int,ns.length<=63->∃ Ω,jt6 [.lst (ns.map .int)] []=some (.ok (.bl true),Ω):=by
 intro ns _;obtain⟨b,e1,hb⟩:=jyp ns;obtain⟨P,Ω1,C,e2⟩:=jrr hb [];have e3:=ju8 hb;obtain⟨Y',ef,a4,a5,a6,a7,a8,rfl⟩:=jf9 (g:=jlo) (tg:=DL.gName 4) (jap 0 40) (fun _ Y=>∃ a4 a5 a6 a7 a8,Y=s11 ns b P a4 a5 a6 a7 a8 none none)
  (fun j hj Y ⟨a4,a5,a6,a7,a8,hd⟩=>by
   subst hd;rw[range_len] at hj;obtain⟨a5',a6',a7',a8',h⟩:=jxc (ns:=ns) hb C hj a5 a6 a7 a8 none none;exact⟨s11 ns b P (some (.int (j:Nat))) a5 a6 a7 a8 none none,by rw[je6];rfl,_,h,_,_,_,_,_,rfl⟩)
  (s11 ns b P none none none none none none none) ⟨_,_,_,_,_,rfl⟩
 obtain⟨a8',a9',a10',Ω',el⟩:=jn3 (ns:=ns) hb C a4 a5 a6 a7 P a8 none none Ω1 fun o h=>h
 refine⟨Ω',?_⟩;unfold jt6;rw[ju2];show ((jtg [some (scr ns),none,none,none,none,none,none,none,none,none,none]).b outE) []=_;have h:jtg [some (scr ns),none,none,none,none,none,none,none,none,none,none] []=some (.ok (.rt (.bl true)),Ω'):=by
  unfold jtg;rw[jea (Y':=[some (scr ns),some (bkD b),none,none,none,none,none,none,none,none,none]) (Ω':=[]) (u_l (by simp only[stp,e1];rfl))];rw[jea (Y':=[some (scr ns),some (bkD b),some (osD P),none,none,none,none,none,none,none,none]) (Ω':=Ω1) (jxh (by
   rw[jl5 (ds:=[bkD b]) (Ω1:=[]) (u_l (by simp only[stp];rfl))];exact e2))]
  rw[jea (Y':=s11 ns b P none none none none none none none) (Ω':=Ω1) (u_l (by simp only[stp,e3];rfl))];rw[jea (Y':=s11 ns b P a4 a5 a6 a7 a8 none none) (Ω':=Ω1) (u_l (by rw[jew (ds:=jap 0 40) (by simp only[stp];rfl)];exact ef))];rw[jea (show eFor _ _ _ _ _=some (.ok (.nx _),_) from by rw[jxg (ds:=P.map fun o:Nat=>D.int (o:Int)) (u_l (by simp only[stp];rfl))];exact el)];exact u_l (jjn rfl)
 rw[v_b h];rfl
end
end MyLaw
end
set_option maxRecDepth 100000 in
set_option maxHeartbeats 0 in
theorem PySem.Challenge.cw_apartbook_k28_whole_counted_rules_carry_holds : PySem.Challenge.rw_apartbook_k28_whole_counted_rules_carry.Holds := by
 w_on;o_law;z_head;(case hw=>w_witness2)
 k_fill
 refine MyLaw.walkZ (l:=PySem.Challenge.rw_apartbook_k28_whole_counted_rules_carry) (fun P=>rfl) rfl rfl ?F MyLaw.law_true
 case F =>
  intro w mg fa h KX G hmg
  refine' ⟨?T,hmg⟩
  case T =>
   apply MyLaw.txt_mk KX G<;>first|(refine' .mk ?a ?l ?c ?k;(case a=>k_is);(case l=>k_is);(case c=>k_is);(case k=>k_is))|kernel_rfl|k_is
package universal

// source is the text of the universal program.
const source = `$ENTRY Run { (e.prog) s.f e.arg = <Call (e.prog) s.f e.arg>; }
Call { (e.prog) s.f e.arg = <Try (e.prog) (e.arg) <Find s.f e.prog>>; }
Find {
  s.f (s.f s.kind e.sentences) e.rest = e.sentences;
  s.f t.other e.rest = <Find s.f e.rest>;
}
Try {
  (e.prog) (e.arg) ((e.left) (e.right)) e.more = <Decide (e.prog) (e.arg) (e.right) (e.more) <Match (e.left) (e.arg) ()>>;
}
Decide {
  (e.prog) (e.arg) (e.right) (e.more) Fail = <Try (e.prog) (e.arg) e.more>;
  (e.prog) (e.arg) (e.right) (e.more) Yes e.b = <Eval (e.prog) (e.b) e.right>;
}
Match {
  () () (e.b) = Yes e.b;
  ('*V' e.p) ('*' e.v) (e.b) = <Match (e.p) (e.v) (e.b)>;
  ('*S' s.n e.p) (s.x e.v) (e.b) = <Bind (e.p) (e.v) (e.b) s.n s.x <Lookup 'S' s.n e.b>>;
  ('*T' s.n e.p) (t.x e.v) (e.b) = <Match (e.p) (e.v) (e.b ('T' s.n t.x))>;
  ('*E' s.n e.p) (e.v) (e.b) = <Right (s.n) (e.p) (e.v) (e.b)>;
  ('*' e.p) (e.v) (e.b) = Fail;
  ((e.q) e.p) ((e.w) e.v) (e.b) = <Inner (e.p) (e.v) <Match (e.q) (e.w) (e.b)>>;
  (s.x e.p) (s.x e.v) (e.b) = <Match (e.p) (e.v) (e.b)>;
  (e.p) (e.v) (e.b) = Fail;
}
Inner {
  (e.p) (e.v) Fail = Fail;
  (e.p) (e.v) Yes e.b = <Match (e.p) (e.v) (e.b)>;
}
Bind {
  (e.p) (e.v) (e.b) s.n s.x None = <Match (e.p) (e.v) (e.b ('S' s.n s.x))>;
  (e.p) (e.v) (e.b) s.n s.x (s.x) = <Match (e.p) (e.v) (e.b)>;
  (e.p) (e.v) (e.b) s.n s.x t.other = Fail;
}
Lookup {
  s.k s.n (s.k s.n e.x) e.rest = (e.x);
  s.k s.n t.other e.rest = <Lookup s.k s.n e.rest>;
  s.k s.n = None;
}
Right {
  (s.n) () (e.v) (e.b) = Yes e.b ('E' s.n e.v);
  (s.n) (e.p '*V') (e.v '*') (e.b) = <Right (s.n) (e.p) (e.v) (e.b)>;
  (s.n) (e.p '*V') (e.v) (e.b) = Fail;
  (s.n) (e.p '*S' s.m) (e.v s.x) (e.b) = <BindRight (s.n) (e.p) (e.v) (e.b) s.m s.x <Lookup 'S' s.m e.b>>;
  (s.n) (e.p '*S' s.m) (e.v) (e.b) = Fail;
  (s.n) (e.p '*T' s.m) (e.v t.x) (e.b) = <Right (s.n) (e.p) (e.v) (e.b ('T' s.m t.x))>;
  (s.n) (e.p '*T' s.m) (e.v) (e.b) = Fail;
  (s.n) (e.p (e.q)) (e.v (e.w)) (e.b) = <InnerRight (s.n) (e.p) (e.v) <Match (e.q) (e.w) (e.b)>>;
  (s.n) (e.p s.x) (e.v s.x) (e.b) = <Right (s.n) (e.p) (e.v) (e.b)>;
  (s.n) (e.p) (e.v) (e.b) = Fail;
}
InnerRight {
  (s.n) (e.p) (e.v) Fail = Fail;
  (s.n) (e.p) (e.v) Yes e.b = <Right (s.n) (e.p) (e.v) (e.b)>;
}
BindRight {
  (s.n) (e.p) (e.v) (e.b) s.m s.x None = <Right (s.n) (e.p) (e.v) (e.b ('S' s.m s.x))>;
  (s.n) (e.p) (e.v) (e.b) s.m s.x (s.x) = <Right (s.n) (e.p) (e.v) (e.b)>;
  (s.n) (e.p) (e.v) (e.b) s.m s.x t.other = Fail;
}
Eval {
  (e.prog) (e.b) = ;
  (e.prog) (e.b) '*V' e.r = '*' <Eval (e.prog) (e.b) e.r>;
  (e.prog) (e.b) '*' (s.f e.a) e.r = <Call (e.prog) s.f <Eval (e.prog) (e.b) e.a>> <Eval (e.prog) (e.b) e.r>;
  (e.prog) (e.b) '*' s.k s.n e.r = <Value <Lookup s.k s.n e.b>> <Eval (e.prog) (e.b) e.r>;
  (e.prog) (e.b) (e.x) e.r = (<Eval (e.prog) (e.b) e.x>) <Eval (e.prog) (e.b) e.r>;
  (e.prog) (e.b) s.x e.r = s.x <Eval (e.prog) (e.b) e.r>;
}
Value { (e.x) = e.x; }
`
